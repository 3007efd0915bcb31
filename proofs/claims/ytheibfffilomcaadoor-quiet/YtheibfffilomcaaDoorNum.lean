/- Plain numbers: the bits of a character put together, and the reader of bytes as a function on numbers. -/
import Derived.WalkKit
import Derived.Laws.BitsLemmas
namespace Go.Proofs.YtheibfffilomcaaDoor

theorem or64 (a c : Nat) (hc : c < 64) : (a * 64) ||| c = a * 64 + c := by
  have := Nat.two_pow_add_eq_or_of_lt (i := 6) (b := c) (by omega) a
  rw [Nat.mul_comm]; exact this.symm

theorem bits_or64 (a c : Int) (h0 : 0 ≤ a) (h1 : a < 1099511627776) (h2 : 0 ≤ c) (h3 : c < 64) : bits .or .i64 (a * 64) c = a * 64 + c := by
  obtain ⟨x, rfl⟩ := Int.eq_ofNat_of_zero_le h0
  obtain ⟨y, rfl⟩ := Int.eq_ofNat_of_zero_le h2
  have := (bits_nat .i64 63 (by decide) (fun n h0 h1 => by rw [IntKind.wrap_i64]; omega) (x * 64) y (by omega) (by omega)).2
  rw [or64 x y (by omega)] at this
  simpa using this

/-- The reader's state: bytes awaited, the next one's bounds, the bits so far. -/
structure RS where
  m : Int
  lo : Int
  hi : Int
  val : Int

def RS.zero : RS := ⟨0, 0, 0, 0⟩

/-- The state behind a byte that begins a character of several. -/
def lead (b : Int) : Option RS :=
  if b < 194 then none else if b ≤ 223 then some ⟨1, 128, 191, b % 32⟩ else if b ≤ 224 then some ⟨2, 160, 191, b % 16⟩ else if b ≤ 236 then some ⟨2, 128, 191, b % 16⟩
  else if b ≤ 237 then some ⟨2, 128, 159, b % 16⟩ else if b ≤ 239 then some ⟨2, 128, 191, b % 16⟩ else if b ≤ 240 then some ⟨3, 144, 191, b % 8⟩
  else if b ≤ 243 then some ⟨3, 128, 191, b % 8⟩ else if b ≤ 244 then some ⟨3, 128, 143, b % 8⟩ else none

/-- A byte that is not awaited: the state behind it, and what is known by it. -/
def RS.beg (s : RS) (b : Int) : RS × List Int :=
  if b < 128 then (s, [b]) else match lead b with
    | some r => (r, [])
    | none => (s, [65533])

/-- The end: what is begun is broken. -/
def RS.fin (s : RS) : RS × List Int := if s.m = 0 then (s, []) else (.zero, [65533])

/-- A byte that goes on. -/
def RS.join (s : RS) (b : Int) : RS × List Int :=
  if s.m = 1 then (.zero, [s.val * 64 + b % 64]) else (⟨s.m - 1, 128, 191, s.val * 64 + b % 64⟩, [])

def RS.take (s : RS) (b : Int) : RS × List Int :=
  if s.m = 0 then s.beg b else if b < s.lo ∨ s.hi < b then ((s.fin.1.beg b).1, s.fin.2 ++ (s.fin.1.beg b).2) else s.join b

/-- A state that comes up. -/
structure RS.ok (s : RS) : Prop where
  m0 : 0 ≤ s.m
  m3 : s.m ≤ 3
  v0 : 0 ≤ s.val
  v1 : s.m = 1 → s.val < 32768
  v2 : s.m = 2 → s.val < 512
  v3 : s.m = 3 → s.val < 8

theorem RS.ok.zero : RS.zero.ok := ⟨by decide, by decide, by decide, fun h => by simp [RS.zero] at h, fun h => by simp [RS.zero] at h, fun h => by simp [RS.zero] at h⟩

theorem lead_ok {b : Int} {r : RS} (h : lead b = some r) : r.ok := by
  unfold lead at h
  repeat' split at h
  all_goals first | (cases h; done) | (cases h; constructor <;> dsimp only <;> omega)

theorem RS.ok.beg {s : RS} (h : s.ok) (b : Int) : (s.beg b).1.ok := by
  unfold RS.beg
  split
  · exact h
  · split
    · exact lead_ok ‹_›
    · exact h

theorem RS.ok.fin {s : RS} (h : s.ok) : s.fin.1.ok := by
  unfold RS.fin
  split
  · exact h
  · exact RS.ok.zero

theorem RS.ok.join {s : RS} (h : s.ok) (b : Int) (hm : s.m ≠ 0) : (s.join b).1.ok := by
  unfold RS.join
  obtain ⟨a1, a2, a3, a4, a5, a6⟩ := h
  split
  · exact RS.ok.zero
  · constructor <;> dsimp only <;> omega

theorem RS.ok.take {s : RS} (h : s.ok) (b : Int) : (s.take b).1.ok := by
  unfold RS.take
  split
  · exact h.beg b
  · split
    · exact h.fin.beg b
    · exact h.join b ‹_›

theorem beg_len (s : RS) (b : Int) : (s.beg b).2.length ≤ 1 := by
  unfold RS.beg
  split
  · simp
  · split <;> simp

theorem take_len (s : RS) (b : Int) : (s.take b).2.length ≤ 2 := by
  unfold RS.take
  have h1 := beg_len s b
  have h2 := beg_len s.fin.1 b
  split
  · omega
  · split
    · rw [List.length_append]
      have : s.fin.2.length ≤ 1 := by unfold RS.fin; split <;> simp
      omega
    · unfold RS.join; split <;> simp

/-- A text's bytes, one behind the other. -/
def RS.run (s : RS) : List Int → RS × List Int
  | [] => (s, [])
  | b :: r => ((RS.run (s.take b).1 r).1, (s.take b).2 ++ (RS.run (s.take b).1 r).2)

theorem run_append (s : RS) (l r : List Int) : s.run (l ++ r) = (((s.run l).1.run r).1, (s.run l).2 ++ ((s.run l).1.run r).2) := by
  induction l generalizing s with
  | nil => simp [RS.run]
  | cons b l ih => simp [RS.run, ih, List.append_assoc]

theorem run_snoc (s : RS) (l : List Int) (b : Int) : s.run (l ++ [b]) = (((s.run l).1.take b).1, (s.run l).2 ++ ((s.run l).1.take b).2) := by
  rw [run_append]; simp [RS.run]

theorem run_len (s : RS) (l : List Int) : (s.run l).2.length ≤ 2 * l.length := by
  induction l generalizing s with
  | nil => simp [RS.run]
  | cons b l ih =>
    have h1 := take_len s b
    have h2 := ih (s.take b).1
    simp only [RS.run, List.length_append, List.length_cons]
    omega

theorem RS.ok.run {s : RS} (h : s.ok) (l : List Int) : (s.run l).1.ok := by
  induction l generalizing s with
  | nil => exact h
  | cons b l ih => exact ih (h.take b)

/-- The characters of a text. -/
def decode (l : List Int) : List Int := (RS.zero.run l).2 ++ (RS.zero.run l).1.fin.2

end Go.Proofs.YtheibfffilomcaaDoor
