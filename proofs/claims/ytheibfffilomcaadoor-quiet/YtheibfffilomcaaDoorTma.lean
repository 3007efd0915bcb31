/- The terminal as plain functions: cells, rows of cells, sheets of rows. -/
namespace Go.Proofs.YtheibfffilomcaaDoor

structure PenS where
  b : Bool
  u : Bool
  t : Bool
  f : Int
  k : Int
deriving DecidableEq

structure CellS where
  r : Int
  p : PenS
  part : Int
deriving DecidableEq

def pen0 : PenS := ⟨false, false, false, 0, 0⟩
def blankS : CellS := ⟨32, pen0, 0⟩
def tailS (c : CellS) : CellS := ⟨0, c.p, 2⟩

/-- A wide character whose cells stand on both sides of the border ahead of a column is cleared. -/
def splitR (r : List CellS) (a : Nat) : List CellS :=
  if 0 < a ∧ a < r.length ∧ r.getD a blankS = tailS (r.getD (a - 1) blankS) then (r.set (a - 1) blankS).set a blankS else r
/-- n cells from a on made blank. -/
def wipeR (r : List CellS) (a n : Nat) : List CellS := r.take a ++ (List.replicate n blankS ++ r.drop (a + n))
def clearR (r : List CellS) (a b : Nat) : List CellS := wipeR (splitR (splitR r a) b) a (b - a)
def putR (r : List CellS) (a : Nat) (c : Int) (wd : Nat) (p : PenS) : List CellS :=
  if wd = 2 then ((splitR (splitR r a) (a + wd)).set a ⟨c, p, 1⟩).set (a + 1) ⟨0, p, 2⟩ else (splitR (splitR r a) (a + wd)).set a ⟨c, p, 0⟩
/-- Cells laid over others from a place on. -/
def layR (r : List CellS) (a : Nat) (q : List CellS) : List CellS := r.take a ++ (q ++ r.drop (a + q.length))
def insR (r : List CellS) (a n : Nat) : List CellS :=
  wipeR (layR (splitR (splitR r a) (r.length - n)) (a + n) (((splitR (splitR r a) (r.length - n)).drop a).take (r.length - (a + n)))) a n
def insertR (r : List CellS) (a n : Nat) : List CellS := insR r a (min n (r.length - a))
def remR (r : List CellS) (a n : Nat) : List CellS :=
  wipeR (layR (splitR (splitR r a) (a + n)) a ((splitR (splitR r a) (a + n)).drop (a + n))) (r.length - n) n
def removeR (r : List CellS) (a n : Nat) : List CellS := remR r a (min n (r.length - a))

theorem splitR_length (r : List CellS) (a : Nat) : (splitR r a).length = r.length := by unfold splitR; split <;> simp
theorem wipeR_length (r : List CellS) (a n : Nat) (h : a + n ≤ r.length) : (wipeR r a n).length = r.length := by simp [wipeR]; omega
theorem clearR_length (r : List CellS) (a b : Nat) (h : b ≤ r.length) (h2 : a ≤ b) : (clearR r a b).length = r.length := by
  rw [clearR, wipeR_length _ _ _ (by rw [splitR_length, splitR_length]; omega), splitR_length, splitR_length]
theorem putR_length (r : List CellS) (a : Nat) (c : Int) (wd : Nat) (p : PenS) : (putR r a c wd p).length = r.length := by unfold putR; split <;> simp [splitR_length]
theorem layR_length (r : List CellS) (a : Nat) (q : List CellS) (h : a + q.length ≤ r.length) : (layR r a q).length = r.length := by simp [layR]; omega
theorem insR_length (r : List CellS) (a n : Nat) (h : a + n ≤ r.length) : (insR r a n).length = r.length := by
  have hl : (layR (splitR (splitR r a) (r.length - n)) (a + n) (((splitR (splitR r a) (r.length - n)).drop a).take (r.length - (a + n)))).length = r.length := by
    rw [layR_length _ _ _ (by simp [splitR_length]; omega), splitR_length, splitR_length]
  rw [insR, wipeR_length _ _ _ (by rw [hl]; omega), hl]
theorem insertR_length (r : List CellS) (a n : Nat) (h : a ≤ r.length) : (insertR r a n).length = r.length := insR_length r a _ (by omega)
theorem remR_length (r : List CellS) (a n : Nat) (h : a + n ≤ r.length) : (remR r a n).length = r.length := by
  have hl : (layR (splitR (splitR r a) (a + n)) a ((splitR (splitR r a) (a + n)).drop (a + n))).length = r.length := by
    rw [layR_length _ _ _ (by simp [splitR_length]; omega), splitR_length, splitR_length]
  rw [remR, wipeR_length _ _ _ (by rw [hl]; omega), hl]
theorem removeR_length (r : List CellS) (a n : Nat) (h : a ≤ r.length) : (removeR r a n).length = r.length := remR_length r a _ (by omega)

end Go.Proofs.YtheibfffilomcaaDoor
