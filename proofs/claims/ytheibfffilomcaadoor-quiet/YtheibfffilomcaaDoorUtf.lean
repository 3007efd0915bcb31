/- Plain numbers: a character's bytes are read again as that character; a stray byte ahead is U+FFFD. -/
import Derived.Test.YtheibfffilomcaaDoorNum
namespace Go.Proofs.YtheibfffilomcaaDoor

/-- A character's bytes. -/
def utfN (c : Int) : List Int :=
  if c < 128 then [c] else if c < 2048 then [192 + c / 64, 128 + c % 64] else if c < 65536 then [224 + c / 4096, 128 + c / 64 % 64, 128 + c % 64]
  else [240 + c / 262144, 128 + c / 4096 % 64, 128 + c / 64 % 64, 128 + c % 64]

theorem take_lead {b : Int} {r : RS} (h : 128 ≤ b) (hl : lead b = some r) : RS.zero.take b = (r, []) := by
  simp [RS.take, RS.zero, RS.beg, hl, show ¬ b < 128 by omega]
theorem take_join {s : RS} {b : Int} (hm : s.m ≠ 0) (h0 : s.lo ≤ b) (h1 : b ≤ s.hi) : s.take b = s.join b := by
  have h : ¬ (b < s.lo ∨ s.hi < b) := by omega
  simp only [RS.take, hm, h, if_false]

theorem join_more {m lo hi v b : Int} (hm : m ≠ 1) : RS.join ⟨m, lo, hi, v⟩ b = (⟨m - 1, 128, 191, v * 64 + b % 64⟩, []) := by simp [RS.join, hm]
theorem join_one {lo hi v b : Int} : RS.join ⟨1, lo, hi, v⟩ b = (.zero, [v * 64 + b % 64]) := by simp [RS.join]

theorem step_more {m lo hi v b : Int} (hm0 : m ≠ 0) (hm : m ≠ 1) (h0 : lo ≤ b) (h1 : b ≤ hi) : RS.take ⟨m, lo, hi, v⟩ b = (⟨m - 1, 128, 191, v * 64 + b % 64⟩, []) :=
  (take_join (s := ⟨m, lo, hi, v⟩) hm0 h0 h1).trans (join_more hm)
theorem step_one {lo hi v b : Int} (h0 : lo ≤ b) (h1 : b ≤ hi) : RS.take ⟨1, lo, hi, v⟩ b = (.zero, [v * 64 + b % 64]) :=
  (take_join (s := ⟨1, lo, hi, v⟩) (by simp) h0 h1).trans join_one

theorem run2 {a b : Int} {lo hi v : Int} (ha : 128 ≤ a) (hl : lead a = some ⟨1, lo, hi, v⟩) (h0 : lo ≤ b) (h1 : b ≤ hi) : RS.zero.run [a, b] = (.zero, [v * 64 + b % 64]) := by
  simp [RS.run, take_lead ha hl, step_one h0 h1]
theorem run3 {a b c : Int} {lo hi v : Int} (ha : 128 ≤ a) (hl : lead a = some ⟨2, lo, hi, v⟩) (h0 : lo ≤ b) (h1 : b ≤ hi) (h2 : 128 ≤ c) (h3 : c ≤ 191) : RS.zero.run [a, b, c] = (.zero, [(v * 64 + b % 64) * 64 + c % 64]) := by
  simp [RS.run, take_lead ha hl, step_more (m := 2) (by omega) (by omega) h0 h1, step_one h2 h3]
theorem run4 {a b c d : Int} {lo hi v : Int} (ha : 128 ≤ a) (hl : lead a = some ⟨3, lo, hi, v⟩) (h0 : lo ≤ b) (h1 : b ≤ hi) (h2 : 128 ≤ c) (h3 : c ≤ 191) (h4 : 128 ≤ d) (h5 : d ≤ 191) :
    RS.zero.run [a, b, c, d] = (.zero, [((v * 64 + b % 64) * 64 + c % 64) * 64 + d % 64]) := by
  simp [RS.run, take_lead ha hl, step_more (m := 3) (by omega) (by omega) h0 h1, step_more (m := 2) (by omega) (by omega) h2 h3, step_one h4 h5]

theorem lead_2 {b : Int} (h0 : 194 ≤ b) (h1 : b ≤ 223) : lead b = some ⟨1, 128, 191, b % 32⟩ := by
  unfold lead; repeat' split
  all_goals first | rfl | (exfalso; omega)
theorem lead_3 {b : Int} (h0 : 224 ≤ b) (h1 : b ≤ 239) : ∃ lo hi, lead b = some ⟨2, lo, hi, b % 16⟩ ∧ lo = (if b = 224 then 160 else 128) ∧ hi = (if b = 237 then 159 else 191) := by
  unfold lead
  repeat' split
  all_goals first | (exfalso; omega) | exact ⟨_, _, rfl, rfl, rfl⟩
theorem lead_4 {b : Int} (h0 : 240 ≤ b) (h1 : b ≤ 244) : ∃ lo hi, lead b = some ⟨3, lo, hi, b % 8⟩ ∧ lo = (if b = 240 then 144 else 128) ∧ hi = (if b = 244 then 143 else 191) := by
  unfold lead
  repeat' split
  all_goals first | (exfalso; omega) | exact ⟨_, _, rfl, rfl, rfl⟩

theorem pair_eq {x y : Int} (h : x = y) : (RS.zero, [x]) = (RS.zero, [y]) := by rw [h]

/-- A CHARACTER TOLD IN ITS BYTES IS READ AGAIN. -/
theorem run_utf (c : Int) (h0 : 0 ≤ c) (h1 : c < 1114112) (hs : c < 55296 ∨ 57344 ≤ c) : RS.zero.run (utfN c) = (.zero, [c]) := by
  unfold utfN
  by_cases a1 : c < 128
  · rw [if_pos a1]
    simp [RS.run, RS.take, RS.zero, RS.beg, a1]
  · rw [if_neg a1]
    by_cases a2 : c < 2048
    · rw [if_pos a2, run2 (by omega) (lead_2 (by omega) (by omega)) (by omega) (by omega)]
      exact pair_eq (by omega)
    · rw [if_neg a2]
      by_cases a3 : c < 65536
      · rw [if_pos a3]
        obtain ⟨lo, hi, hl, e1, e2⟩ := lead_3 (b := 224 + c / 4096) (by omega) (by omega)
        rw [run3 (by omega) hl (by rw [e1]; split <;> omega) (by rw [e2]; split <;> omega) (by omega) (by omega)]
        exact pair_eq (by omega)
      · rw [if_neg a3]
        obtain ⟨lo, hi, hl, e1, e2⟩ := lead_4 (b := 240 + c / 262144) (by omega) (by omega)
        rw [run4 (by omega) hl (by rw [e1]; split <;> omega) (by rw [e2]; split <;> omega) (by omega) (by omega) (by omega) (by omega)]
        exact pair_eq (by omega)

theorem run_odd (b : Int) (h0 : 128 ≤ b) (h1 : b < 192) : RS.zero.run [b] = (.zero, [65533]) := by
  have hl : lead b = none := by unfold lead; rw [if_pos (by omega)]
  simp [RS.run, RS.take, RS.zero, RS.beg, hl, show ¬ b < 128 by omega]

/-- A number that a character may have. -/
def isChar (c : Int) : Prop := 0 ≤ c ∧ c < 1114112 ∧ (c < 55296 ∨ 57344 ≤ c)

def utfs (l : List Int) : List Int := l.flatMap utfN
def odds (b : Int) (l : List Int) : List Int := l.flatMap fun c => b :: utfN c
def spoilt (l : List Int) : List Int := l.flatMap fun c => [65533, c]

theorem run_utfs (l : List Int) (h : ∀ c ∈ l, isChar c) : RS.zero.run (utfs l) = (.zero, l) := by
  induction l with
  | nil => rfl
  | cons c l ih =>
    obtain ⟨a, b, d⟩ := h c (by simp)
    have ih := ih fun x hx => h x (by simp [hx])
    unfold utfs at ih ⊢
    rw [List.flatMap_cons, run_append, run_utf c a b d]
    dsimp only
    rw [ih]; simp

theorem run_odds (b : Int) (h0 : 128 ≤ b) (h1 : b < 192) (l : List Int) (h : ∀ c ∈ l, isChar c) : RS.zero.run (odds b l) = (.zero, spoilt l) := by
  induction l with
  | nil => rfl
  | cons c l ih =>
    obtain ⟨p, q, r⟩ := h c (by simp)
    have ih := ih fun x hx => h x (by simp [hx])
    unfold odds spoilt at ih ⊢
    rw [List.flatMap_cons, List.flatMap_cons, show b :: utfN c = [b] ++ utfN c from rfl, List.append_assoc, run_append, run_odd b h0 h1]
    dsimp only
    rw [run_append, run_utf c p q r]
    dsimp only
    rw [ih]; simp

theorem decode_utfs (l : List Int) (h : ∀ c ∈ l, isChar c) : decode (utfs l) = l := by
  unfold decode
  rw [run_utfs l h]; simp [RS.fin, RS.zero]
theorem decode_odds (b : Int) (h0 : 128 ≤ b) (h1 : b < 192) (l : List Int) (h : ∀ c ∈ l, isChar c) : decode (odds b l) = spoilt l := by
  unfold decode
  rw [run_odds b h0 h1 l h]; simp [RS.fin, RS.zero]

theorem spoilt_length (l : List Int) : (spoilt l).length = 2 * l.length := by
  induction l with
  | nil => rfl
  | cons c l ih => unfold spoilt at ih ⊢; rw [List.flatMap_cons]; simp only [List.length_append, List.length_cons, List.length_nil]; omega
theorem spoilt_even (l : List Int) (k : Nat) (h : k < l.length) : (spoilt l)[2 * k]? = some 65533 := by
  induction l generalizing k with
  | nil => simp at h
  | cons c l ih =>
    have e : spoilt (c :: l) = 65533 :: c :: spoilt l := rfl
    rw [e]
    cases k with
    | zero => rfl
    | succ k => rw [show 2 * (k + 1) = (2 * k + 1) + 1 by omega, List.getElem?_cons_succ, List.getElem?_cons_succ]; exact ih k (by simpa using h)
theorem spoilt_odd (l : List Int) (k : Nat) (h : k < l.length) : (spoilt l)[2 * k + 1]? = l[k]? := by
  induction l generalizing k with
  | nil => simp at h
  | cons c l ih =>
    have e : spoilt (c :: l) = 65533 :: c :: spoilt l := rfl
    rw [e]
    cases k with
    | zero => rfl
    | succ k => rw [show 2 * (k + 1) + 1 = (2 * k + 1 + 1) + 1 by omega, List.getElem?_cons_succ, List.getElem?_cons_succ, List.getElem?_cons_succ]; exact ih k (by simpa using h)

theorem utfN_byte (c : Int) (h0 : 0 ≤ c) (h1 : c < 1114112) : ∀ x ∈ utfN c, 0 ≤ x ∧ x < 256 := by
  unfold utfN
  intro x hx
  repeat' split at hx
  all_goals simp at hx
  · omega
  · rcases hx with rfl | rfl <;> omega
  · rcases hx with rfl | rfl | rfl <;> omega
  · rcases hx with rfl | rfl | rfl | rfl <;> omega
theorem utfN_length (c : Int) : (utfN c).length ≤ 4 := by
  unfold utfN
  repeat' split
  all_goals simp

end Go.Proofs.YtheibfffilomcaaDoor
