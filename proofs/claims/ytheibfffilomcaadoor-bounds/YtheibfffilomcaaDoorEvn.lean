/- The machine of modes as a plain function on numbers: the program's way. -/
namespace Go.Proofs.YtheibfffilomcaaDoor

def z16 : List Int := List.replicate 16 0
theorem z16_length : z16.length = 16 := rfl
def noEv : List Int := [0, 0, 0, 0, 0] ++ z16

/-- The machine: mode, mark, count, numbers. -/
structure MS where
  md : Int
  mr : Int
  ct : Int
  ps : List Int
def MS.l (s : MS) : List Int := [s.md, s.mr, s.ct] ++ s.ps
def MS.zero : MS := ⟨0, 0, 0, z16⟩

def finalN (c : Int) : Bool := decide (64 ≤ c ∧ c ≤ 126)
def markN (c : Int) : Bool := c == 63 || c == 62 || c == 61 || c == 60
def textN (c : Int) : Bool := c == 93 || c == 80 || c == 88 || c == 94 || c == 95

def MS.begNum (s : MS) : MS := ⟨s.md, s.mr, min (s.ct + 1) 17, if s.ct < 16 then s.ps.set s.ct.toNat (-1) else s.ps⟩
def MS.joinDig (s : MS) (d : Int) : MS :=
  if 16 < s.ct then s else ⟨s.md, s.mr, s.ct, s.ps.set (s.ct - 1).toNat (min (max (s.ps.getD (s.ct - 1).toNat 0) 0 * 10 + d) 65535)⟩
def MS.seqEv (s : MS) (f : Int) : List Int := [4, 0, s.mr, f, min s.ct 16] ++ s.ps

def MS.takeNum (s : MS) (c : Int) : MS × List Int × Bool :=
  if 48 ≤ c ∧ c ≤ 57 then (s.joinDig (c - 48), noEv, false) else if c = 59 then (s.begNum, noEv, false) else if finalN c = true then (.zero, s.seqEv c, true) else (⟨4, 0, 0, z16⟩, noEv, false)

def MS.takeEsc (s : MS) (c : Int) : MS × List Int × Bool :=
  if c = 91 then (MS.begNum ⟨2, 0, 0, z16⟩, noEv, false) else if textN c = true then (⟨5, 0, 0, z16⟩, noEv, false) else if c ≤ 47 then (⟨s.md, c, s.ct, s.ps⟩, noEv, false)
  else if c ≤ 126 then (.zero, [3, 0, s.mr, c, 0] ++ z16, true) else (.zero, noEv, false)

def MS.takeVis (s : MS) (c : Int) : MS × List Int × Bool :=
  if s.md = 0 then (s, [1, c, 0, 0, 0] ++ z16, true) else if s.md = 1 then s.takeEsc c
  else if s.md = 2 then (if markN c = true then (⟨3, c, s.ct, s.ps⟩, noEv, false) else MS.takeNum ⟨3, s.mr, s.ct, s.ps⟩ c) else if s.md = 3 then s.takeNum c
  else if s.md = 4 then (if finalN c = true then (.zero, noEv, false) else (s, noEv, false)) else (s, noEv, false)

def MS.skip (s : MS) (c : Int) : MS := if c = 7 ∨ c = 156 then .zero else s

def MS.take (s : MS) (c : Int) : MS × List Int × Bool :=
  if c = 24 ∨ c = 26 then (.zero, noEv, false) else if c = 27 then (⟨1, 0, 0, z16⟩, noEv, false) else if s.md = 5 then (s.skip c, noEv, false)
  else if c < 32 then (s, [2, c, 0, 0, 0] ++ z16, true) else if c ≠ 127 then s.takeVis c else (s, noEv, false)

/-- A state that comes up. -/
structure MS.ok (s : MS) : Prop where
  len : s.ps.length = 16
  m0 : 0 ≤ s.md
  m5 : s.md ≤ 5
  c0 : 0 ≤ s.ct
  c1 : s.ct ≤ 17
  c2 : s.md = 2 ∨ s.md = 3 → 1 ≤ s.ct
  r0 : -10000000 ≤ s.mr
  r1 : s.mr ≤ 10000000
  p : ∀ x ∈ s.ps, -1 ≤ x ∧ x ≤ 65535

theorem z16_bd : ∀ x ∈ z16, -1 ≤ x ∧ x ≤ 65535 := by
  intro x hx
  have := List.eq_of_mem_replicate hx
  omega
theorem getD_bd {l : List Int} (h : ∀ x ∈ l, -1 ≤ x ∧ x ≤ 65535) (j : Nat) : -1 ≤ l.getD j 0 ∧ l.getD j 0 ≤ 65535 := by
  by_cases hj : j < l.length
  · have : l.getD j 0 ∈ l := by simp [List.getD, List.getElem?_eq_getElem hj]
    exact h _ this
  · simp [List.getD, List.getElem?_eq_none (by omega : l.length ≤ j)]
theorem set_bd {l : List Int} (h : ∀ x ∈ l, -1 ≤ x ∧ x ≤ 65535) (j : Nat) (v : Int) (h0 : -1 ≤ v) (h1 : v ≤ 65535) : ∀ x ∈ l.set j v, -1 ≤ x ∧ x ≤ 65535 := by
  intro x hx
  rcases List.mem_or_eq_of_mem_set hx with hx | rfl
  · exact h x hx
  · exact ⟨h0, h1⟩

theorem MS.ok.zero : MS.zero.ok := ⟨rfl, by decide, by decide, by decide, by decide, by decide, by decide, by decide, z16_bd⟩
theorem MS.ok.mode {m : Int} (h0 : 0 ≤ m) (h1 : m ≤ 5) (h2 : m ≠ 2) (h3 : m ≠ 3) : MS.ok ⟨m, 0, 0, z16⟩ := ⟨rfl, h0, h1, by dsimp only; omega, by dsimp only; omega, fun h => by dsimp only at h; omega, by dsimp only; omega, by dsimp only; omega, z16_bd⟩

theorem MS.ok.begNum {s : MS} (h : s.ok) : s.begNum.ok := by
  obtain ⟨a1, a2, a3, a4, a5, a6, a7, a8, a9⟩ := h
  refine ⟨?_, a2, a3, ?_, ?_, fun _ => ?_, a7, a8, ?_⟩
  · unfold MS.begNum; dsimp only; split
    · simp [a1]
    · exact a1
  · unfold MS.begNum; dsimp only; omega
  · unfold MS.begNum; dsimp only; omega
  · unfold MS.begNum; dsimp only; omega
  · unfold MS.begNum; dsimp only; split
    · exact set_bd a9 _ _ (by omega) (by omega)
    · exact a9
theorem MS.ok.joinDig {s : MS} (h : s.ok) {d : Int} (h0 : 0 ≤ d) (h1 : d ≤ 9) : (s.joinDig d).ok := by
  obtain ⟨a1, a2, a3, a4, a5, a6, a7, a8, a9⟩ := h
  unfold MS.joinDig
  split
  · exact ⟨a1, a2, a3, a4, a5, a6, a7, a8, a9⟩
  · refine ⟨by simp [a1], a2, a3, a4, a5, a6, a7, a8, ?_⟩
    dsimp only
    have := getD_bd a9 (s.ct - 1).toNat
    exact set_bd a9 _ _ (by omega) (by omega)

theorem MS.ok.takeNum {s : MS} (h : s.ok) (c : Int) : (s.takeNum c).1.ok := by
  unfold MS.takeNum
  by_cases a : 48 ≤ c ∧ c ≤ 57
  · rw [if_pos a]; exact h.joinDig (by omega) (by omega)
  · rw [if_neg a]
    by_cases b : c = 59
    · rw [if_pos b]; exact h.begNum
    · rw [if_neg b]
      by_cases d : finalN c = true
      · rw [if_pos d]; exact MS.ok.zero
      · rw [if_neg d]; exact MS.ok.mode (by omega) (by omega) (by omega) (by omega)
theorem MS.ok.takeEsc {s : MS} (h : s.ok) {c : Int} (hc0 : 0 ≤ c) : (s.takeEsc c).1.ok := by
  unfold MS.takeEsc
  by_cases a1 : c = 91
  · rw [if_pos a1]
    refine ⟨rfl, by decide, by decide, by decide, by decide, by decide, by decide, by decide, ?_⟩
    unfold MS.begNum; dsimp only; rw [if_pos (by decide)]
    exact set_bd z16_bd _ _ (by omega) (by omega)
  · rw [if_neg a1]
    by_cases a2 : textN c = true
    · rw [if_pos a2]; exact MS.ok.mode (by omega) (by omega) (by omega) (by omega)
    · rw [if_neg a2]
      by_cases a3 : c ≤ 47
      · rw [if_pos a3]
        obtain ⟨b1, b2, b3, b4, b5, b6, b7, b8, b9⟩ := h
        exact ⟨b1, b2, b3, b4, b5, b6, by dsimp only; omega, by dsimp only; omega, b9⟩
      · rw [if_neg a3]
        by_cases a4 : c ≤ 126
        · rw [if_pos a4]; exact MS.ok.zero
        · rw [if_neg a4]; exact MS.ok.zero
theorem MS.ok.third {s : MS} (h : s.ok) (hm : s.md = 2) {r : Int} (h0 : -10000000 ≤ r) (h1 : r ≤ 10000000) : MS.ok ⟨3, r, s.ct, s.ps⟩ := by
  obtain ⟨b1, b2, b3, b4, b5, b6, b7, b8, b9⟩ := h
  exact ⟨b1, by dsimp only; omega, by dsimp only; omega, b4, b5, fun _ => b6 (Or.inl hm), h0, h1, b9⟩
theorem MS.ok.takeVis {s : MS} (h : s.ok) {c : Int} (hc0 : 0 ≤ c) (hc1 : c ≤ 10000000) : (s.takeVis c).1.ok := by
  unfold MS.takeVis
  by_cases a0 : s.md = 0
  · rw [if_pos a0]; exact h
  · rw [if_neg a0]
    by_cases a1 : s.md = 1
    · rw [if_pos a1]; exact h.takeEsc hc0
    · rw [if_neg a1]
      by_cases a2 : s.md = 2
      · rw [if_pos a2]
        by_cases b : markN c = true
        · rw [if_pos b]; exact h.third a2 (by omega) (by omega)
        · rw [if_neg b]; exact (h.third a2 h.r0 h.r1).takeNum c
      · rw [if_neg a2]
        by_cases a3 : s.md = 3
        · rw [if_pos a3]; exact h.takeNum c
        · rw [if_neg a3]
          by_cases a4 : s.md = 4
          · rw [if_pos a4]
            by_cases b : finalN c = true
            · rw [if_pos b]; exact MS.ok.zero
            · rw [if_neg b]; exact h
          · rw [if_neg a4]; exact h
theorem MS.ok.skip {s : MS} (h : s.ok) (c : Int) : (s.skip c).ok := by
  unfold MS.skip
  split
  · exact MS.ok.zero
  · exact h
theorem MS.ok.take {s : MS} (h : s.ok) {c : Int} (hc0 : 0 ≤ c) (hc1 : c ≤ 10000000) : (s.take c).1.ok := by
  unfold MS.take
  by_cases a0 : c = 24 ∨ c = 26
  · rw [if_pos a0]; exact MS.ok.zero
  · rw [if_neg a0]
    by_cases a1 : c = 27
    · rw [if_pos a1]; exact MS.ok.mode (by omega) (by omega) (by omega) (by omega)
    · rw [if_neg a1]
      by_cases a2 : s.md = 5
      · rw [if_pos a2]; exact h.skip c
      · rw [if_neg a2]
        by_cases a3 : c < 32
        · rw [if_pos a3]; exact h
        · rw [if_neg a3]
          by_cases a4 : c ≠ 127
          · rw [if_pos a4]; exact h.takeVis hc0 hc1
          · rw [if_neg a4]; exact h

end Go.Proofs.YtheibfffilomcaaDoor
