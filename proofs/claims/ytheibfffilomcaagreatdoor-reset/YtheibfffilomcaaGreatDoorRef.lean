/- Plain numbers: the document's way of looking for a character whole, and that it reads what the reader of bytes reads. -/
import Derived.Test.YtheibfffilomcaaGreatDoorUtf
namespace Go.Proofs.YtheibfffilomcaaGreatDoor

def lenN (b : Int) : Int := if b < 128 then 1 else if 194 ≤ b ∧ b ≤ 223 then 2 else if 224 ≤ b ∧ b ≤ 239 then 3 else if 240 ≤ b ∧ b ≤ 244 then 4 else 0
def loN (first k : Int) : Int := if k = 1 then (if first = 224 then 160 else if first = 240 then 144 else 128) else 128
def hiN (first k : Int) : Int := if k = 1 then (if first = 237 then 159 else if first = 244 then 143 else 191) else 191
def goesN (first k b : Int) : Bool := decide (loN first k ≤ b ∧ b ≤ hiN first k)

/-- The bytes behind the first: the character, how many bytes it takes, whether it is whole. -/
def refGo (first : Int) (n : Nat) : List Int → Nat → Int → Int × Nat × Bool
  | [], k, v => if k < n then (65533, k, false) else (v, n, true)
  | b :: r, k, v => if k < n then (if goesN first k b = true then refGo first n r (k + 1) (64 * v + b - 128) else (65533, k, true)) else (v, n, true)

def refChar (first : Int) (rest : List Int) : Int × Nat × Bool :=
  if lenN first = 0 then (65533, 1, true) else if lenN first = 1 then (first, 1, true)
  else refGo first (lenN first).toNat rest 1 (if lenN first = 3 then first % 16 else if lenN first = 4 then first % 8 else first % 32)

/-- What is known of a text: all characters; at its end what is begun is broken, or waited for. -/
def outN (e : Bool) (l : List Int) : List Int := (RS.zero.run l).2 ++ (if e then (RS.zero.run l).1.fin.2 else [])
theorem outN_true (l : List Int) : outN true l = decode l := rfl
theorem outN_false (l : List Int) : outN false l = (RS.zero.run l).2 := by simp [outN]
theorem outN_nil (e : Bool) : outN e [] = [] := by cases e <;> simp [outN, RS.run, RS.fin, RS.zero]

theorem take_bad {s : RS} {b : Int} (hm : s.m ≠ 0) (h : b < s.lo ∨ s.hi < b) : s.take b = ((RS.zero.take b).1, 65533 :: (RS.zero.take b).2) := by
  have e1 : s.fin = (.zero, [65533]) := by simp [RS.fin, hm]
  have e2 : RS.zero.take b = RS.zero.beg b := by simp [RS.take, RS.zero]
  rw [e2]
  simp only [RS.take, hm, h, if_true, if_false, e1]
  rfl

/-- How the reader goes on where the document's way does. -/
structure Goes (s : RS) (rest : List Int) (c : Int) (j : Nat) (wh : Bool) : Prop where
  yes : wh = true → j ≤ rest.length ∧ s.run rest = ((RS.zero.run (rest.drop j)).1, c :: (RS.zero.run (rest.drop j)).2)
  no : wh = false → j = rest.length ∧ c = 65533 ∧ (s.run rest).2 = [] ∧ (s.run rest).1.m ≠ 0

theorem go_one (first : Int) (n : Nat) (rest : List Int) (hb : ∀ b ∈ rest, 0 ≤ b ∧ b < 256) :
    ∀ (k : Nat) (v : Int), 1 ≤ k → k < n → ∃ j, (refGo first n rest k v).2.1 = k + j ∧ Goes ⟨(n : Int) - k, loN first k, hiN first k, v⟩ rest (refGo first n rest k v).1 j (refGo first n rest k v).2.2 := by
  induction rest with
  | nil =>
    intro k v h1 hk
    refine ⟨0, ?_, ?_, ?_⟩
    · simp [refGo, hk]
    · intro h; simp [refGo, hk] at h
    · intro _; simp [refGo, hk, RS.run]; omega
  | cons b r ih =>
    intro k v h1 hk
    obtain ⟨hb0, hb1⟩ := hb b (by simp)
    have hm : ((n : Int) - k) ≠ 0 := by omega
    by_cases hg : goesN first k b = true
    · have hg' : loN first k ≤ b ∧ b ≤ hiN first k := by simpa [goesN] using hg
      have hbb : 128 ≤ b ∧ b ≤ 191 := by
        unfold loN hiN at hg'
        repeat' split at hg'
        all_goals omega
      have hv : v * 64 + b % 64 = 64 * v + b - 128 := by omega
      have e : refGo first n (b :: r) k v = refGo first n r (k + 1) (64 * v + b - 128) := by simp [refGo, hk, hg]
      rw [e]
      by_cases hk1 : k + 1 < n
      · obtain ⟨j, hj, hy, hn⟩ := ih (fun x hx => hb x (by simp [hx])) (k + 1) (64 * v + b - 128) (by omega) hk1
        have hlo : loN first ((k + 1 : Nat) : Int) = 128 := by unfold loN; rw [if_neg (by omega)]
        have hhi : hiN first ((k + 1 : Nat) : Int) = 191 := by unfold hiN; rw [if_neg (by omega)]
        rw [hlo, hhi] at hy hn
        have hst : RS.take ⟨(n : Int) - k, loN first k, hiN first k, v⟩ b = (⟨(n : Int) - (k + 1 : Nat), 128, 191, 64 * v + b - 128⟩, []) := by
          rw [step_more hm (by omega) hg'.1 hg'.2, hv]
          have : (n : Int) - k - 1 = (n : Int) - (k + 1 : Nat) := by omega
          rw [this]
        refine ⟨j + 1, by omega, ?_, ?_⟩
        · intro hw
          obtain ⟨y1, y2⟩ := hy hw
          refine ⟨by simpa using y1, ?_⟩
          simp only [RS.run, hst, List.drop_succ_cons, List.nil_append]
          exact y2
        · intro hw
          obtain ⟨n1, n2, n3, n4⟩ := hn hw
          refine ⟨by simpa using n1, n2, ?_, ?_⟩
          · simp only [RS.run, hst, List.nil_append]; exact n3
          · simp only [RS.run, hst]; exact n4
      · have hkn : (n : Int) - k = 1 := by omega
        have e2 : refGo first n r (k + 1) (64 * v + b - 128) = (64 * v + b - 128, n, true) := by
          cases r <;> simp [refGo, show ¬ k + 1 < n by omega]
        rw [e2, hkn]
        refine ⟨1, by dsimp only; omega, ?_, ?_⟩
        · intro _
          refine ⟨by simp, ?_⟩
          simp only [RS.run, step_one hg'.1 hg'.2, hv, List.drop_succ_cons, List.drop_zero]
          rfl
        · intro h; simp at h
    · have hg' : b < loN first k ∨ hiN first k < b := by
        have : ¬ (loN first k ≤ b ∧ b ≤ hiN first k) := by simpa [goesN] using hg
        omega
      have e : refGo first n (b :: r) k v = (65533, k, true) := by simp [refGo, hk, hg]
      rw [e]
      refine ⟨0, rfl, ?_, ?_⟩
      · intro _
        refine ⟨Nat.zero_le _, ?_⟩
        simp only [RS.run, take_bad (s := ⟨(n : Int) - k, loN first k, hiN first k, v⟩) hm hg', List.drop_zero]
        rfl
      · intro h; simp at h

theorem lead_len {b : Int} (h : lenN b = 2 ∨ lenN b = 3 ∨ lenN b = 4) :
    128 ≤ b ∧ lead b = some ⟨lenN b - 1, loN b 1, hiN b 1, if lenN b = 3 then b % 16 else if lenN b = 4 then b % 8 else b % 32⟩ := by
  unfold lenN at h ⊢
  unfold lead loN hiN
  by_cases a1 : b < 128
  · simp [a1] at h
  · by_cases a2 : 194 ≤ b ∧ b ≤ 223
    · refine ⟨by omega, ?_⟩
      rw [if_neg (by omega), if_pos a2.2, if_neg a1, if_pos a2]
      simp [show b ≠ 224 by omega, show b ≠ 240 by omega, show b ≠ 237 by omega, show b ≠ 244 by omega]
    · by_cases a3 : 224 ≤ b ∧ b ≤ 239
      · refine ⟨by omega, ?_⟩
        rw [if_neg (by omega), if_neg (by omega), if_neg a1, if_neg a2, if_pos a3]
        repeat' split
        all_goals first | rfl | (exfalso; omega)
      · by_cases a4 : 240 ≤ b ∧ b ≤ 244
        · refine ⟨by omega, ?_⟩
          rw [if_neg (by omega), if_neg (by omega), if_neg (by omega), if_neg (by omega), if_neg (by omega), if_neg (by omega), if_neg a1, if_neg a2, if_neg a3, if_pos a4]
          repeat' split
          all_goals first | rfl | (exfalso; omega)
        · rw [if_neg a1, if_neg a2, if_neg a3, if_neg a4] at h
          omega

theorem lenN_cases (b : Int) : (lenN b = 1 ∧ b < 128) ∨ (lenN b = 0 ∧ 128 ≤ b ∧ lead b = none) ∨ lenN b = 2 ∨ lenN b = 3 ∨ lenN b = 4 := by
  unfold lenN
  by_cases a1 : b < 128
  · left; simp [a1]
  · by_cases a2 : 194 ≤ b ∧ b ≤ 223
    · right; right; left; simp [a1, a2]
    · by_cases a3 : 224 ≤ b ∧ b ≤ 239
      · right; right; right; left; rw [if_neg a1, if_neg a2, if_pos a3]
      · by_cases a4 : 240 ≤ b ∧ b ≤ 244
        · right; right; right; right; rw [if_neg a1, if_neg a2, if_neg a3, if_pos a4]
        · right; left
          refine ⟨by rw [if_neg a1, if_neg a2, if_neg a3, if_neg a4], by omega, ?_⟩
          unfold lead
          repeat' split
          all_goals first | rfl | (exfalso; omega)

/-- ONE CHARACTER, LOOKED FOR WHOLE, IS WHAT THE READER READS. -/
theorem char_goes (first : Int) (rest : List Int) (_h0 : 0 ≤ first) (hb : ∀ b ∈ rest, 0 ≤ b ∧ b < 256) :
    1 ≤ (refChar first rest).2.1 ∧ Goes .zero (first :: rest) (refChar first rest).1 (refChar first rest).2.1 (refChar first rest).2.2 := by
  rcases lenN_cases first with ⟨h, hf⟩ | ⟨h, hf, hl⟩ | h
  · have e : refChar first rest = (first, 1, true) := by simp [refChar, h]
    rw [e]
    refine ⟨Nat.le_refl _, fun _ => ⟨by simp, ?_⟩, fun h => by simp at h⟩
    have : RS.zero.take first = (.zero, [first]) := by simp [RS.take, RS.zero, RS.beg, hf]
    simp only [RS.run, this, List.drop_succ_cons, List.drop_zero]; rfl
  · have e : refChar first rest = (65533, 1, true) := by simp [refChar, h]
    rw [e]
    refine ⟨Nat.le_refl _, fun _ => ⟨by simp, ?_⟩, fun h => by simp at h⟩
    have : RS.zero.take first = (.zero, [65533]) := by simp [RS.take, RS.zero, RS.beg, hl, show ¬ first < 128 by omega]
    simp only [RS.run, this, List.drop_succ_cons, List.drop_zero]; rfl
  · obtain ⟨hf, hl⟩ := lead_len h
    have e : refChar first rest = refGo first (lenN first).toNat rest 1 (if lenN first = 3 then first % 16 else if lenN first = 4 then first % 8 else first % 32) := by
      unfold refChar; rw [if_neg (by omega), if_neg (by omega)]
    rw [e]
    obtain ⟨j, hj, hy, hn⟩ := go_one first (lenN first).toNat rest hb 1 (if lenN first = 3 then first % 16 else if lenN first = 4 then first % 8 else first % 32) (Nat.le_refl _) (by omega)
    have hst := take_lead hf hl
    have hn1 : (((lenN first).toNat : Nat) : Int) - ((1 : Nat) : Int) = lenN first - 1 := by omega
    rw [hn1] at hy hn
    refine ⟨by omega, fun hw => ?_, fun hw => ?_⟩
    · obtain ⟨y1, y2⟩ := hy hw
      rw [hj, show 1 + j = j + 1 by omega]
      refine ⟨by simpa using y1, ?_⟩
      simp only [RS.run, hst, List.drop_succ_cons, List.nil_append]
      exact y2
    · obtain ⟨n1, n2, n3, n4⟩ := hn hw
      refine ⟨by rw [hj]; simp; omega, n2, ?_, ?_⟩
      · simp only [RS.run, hst, List.nil_append]; exact n3
      · simp only [RS.run, hst]; exact n4

/-- What is known of a text, one character further. -/
theorem out_yes {first : Int} {rest : List Int} {c : Int} {j : Nat} (h : Goes .zero (first :: rest) c j true) (e : Bool) : j ≤ (first :: rest).length ∧ outN e (first :: rest) = c :: outN e ((first :: rest).drop j) := by
  obtain ⟨h1, h2⟩ := h.yes rfl
  refine ⟨h1, ?_⟩
  unfold outN
  rw [h2]
  rfl
theorem out_no {first : Int} {rest : List Int} {c : Int} {j : Nat} (h : Goes .zero (first :: rest) c j false) (e : Bool) : j = (first :: rest).length ∧ outN e (first :: rest) = (if e then [c] else []) := by
  obtain ⟨h1, h2, h3, h4⟩ := h.no rfl
  refine ⟨h1, ?_⟩
  unfold outN
  rw [h3, h2]
  cases e <;> simp [RS.fin, h4]

end Go.Proofs.YtheibfffilomcaaGreatDoor
