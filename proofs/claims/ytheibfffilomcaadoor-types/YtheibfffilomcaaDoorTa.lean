/- The terminal as plain functions: what it keeps, and what events do. -/
import Derived.Test.YtheibfffilomcaaDoorDa
namespace Go.Proofs.YtheibfffilomcaaDoor

structure SpotS where
  row : Int
  col : Int
  waits : Bool
  pen : PenS
  first : Int
  second : Int
  use : Int
  origin : Bool
deriving DecidableEq
def spot0 : SpotS := ⟨0, 0, false, pen0, 0, 0, 0, false⟩

structure TS where
  rows : Nat
  cols : Nat
  s0 : Sheet
  v0 : SpotS
  s1 : Sheet
  v1 : SpotS
  row : Int
  col : Int
  waits : Bool
  pen : PenS
  first : Int
  second : Int
  use : Int
  origin : Bool
  top : Int
  bottom : Int
  wrap : Bool
  insert : Bool
  shown : Int
  tabs : List Bool

namespace TS
def fresh (rows cols : Nat) : TS :=
  ⟨rows, cols, List.replicate rows (blankR cols), spot0, List.replicate rows (blankR cols), spot0, 0, 0, false, pen0, 0, 0, 0, false, 0, (rows : Int) - 1, true, false, 0, (List.range cols).map fun c => decide (0 < c ∧ c % 8 = 0)⟩
def spot (s : TS) : SpotS := ⟨s.row, s.col, s.waits, s.pen, s.first, s.second, s.use, s.origin⟩
def cur (s : TS) : Sheet := if s.shown = 0 then s.s0 else s.s1
def setCur (s : TS) (S : Sheet) : TS := if s.shown = 0 then { s with s0 := S } else { s with s1 := S }
def saved (s : TS) : SpotS := if s.shown = 0 then s.v0 else s.v1
/-- The cursor's row. -/
def rowNow (s : TS) : List CellS := s.cur.getD s.row.toNat []
def setRowNow (s : TS) (r : List CellS) : TS := s.setCur (s.cur.set s.row.toNat r)

def bringI (n low high : Int) : Int := max low (min n high)
def toCol (s : TS) (c : Int) : TS := { s with col := bringI c 0 ((s.cols : Int) - 1) }
def toRow (s : TS) (r : Int) : TS := { s with row := bringI r 0 ((s.rows : Int) - 1) }
def toCounted (s : TS) (r : Int) : TS := if s.origin then { s with row := bringI (s.top + r) s.top s.bottom } else s.toRow r
def home (s : TS) : TS := { (s.toCounted 0).toCol 0 with waits := false }
def rise (s : TS) (n : Int) : TS := { s with row := max (s.row - n) (if s.top ≤ s.row then s.top else 0) }
def sink (s : TS) (n : Int) : TS := { s with row := min (s.row + n) (if s.row ≤ s.bottom then s.bottom else (s.rows : Int) - 1) }
def height (s : TS) : Nat := (s.bottom + 1 - s.top).toNat
def scrollUp (s : TS) (n : Nat) : TS := s.setCur (upS s.cur s.top.toNat s.height n s.cols)
def scrollDown (s : TS) (n : Nat) : TS := s.setCur (downS s.cur s.top.toNat s.height n s.cols)
def down (s : TS) : TS := if s.row = s.bottom then s.scrollUp 1 else s.toRow (s.row + 1)
def up (s : TS) : TS := if s.row = s.top then s.scrollDown 1 else s.toRow (s.row - 1)
def nextLine (s : TS) : TS := (s.toCol 0).down
def tabStop (tabs : List Bool) (c : Nat) : Int := match (tabs.drop c).findIdx? id with
  | some i => (c : Int) + (i : Int)
  | none => (tabs.length : Int) - 1
def nextTab (s : TS) : TS := s.toCol (tabStop s.tabs (s.col.toNat + 1))
def save (s : TS) : TS := if s.shown = 0 then { s with v0 := s.spot } else { s with v1 := s.spot }
def setSpot (s : TS) (p : SpotS) : TS := { s with row := p.row, col := p.col, waits := p.waits, pen := p.pen, first := p.first, second := p.second, use := p.use, origin := p.origin }
def restore (s : TS) : TS := s.setSpot { s.saved with waits := s.saved.waits && s.wrap, row := if s.saved.origin then bringI s.saved.row s.top s.bottom else s.saved.row }

def lineOf (c : Int) : Int :=
  if c = 106 then 9496 else if c = 107 then 9488 else if c = 108 then 9484 else if c = 109 then 9492 else if c = 110 then 9532 else if c = 113 then 9472 else
  if c = 116 then 9500 else if c = 117 then 9508 else if c = 118 then 9524 else if c = 119 then 9516 else if c = 120 then 9474 else c
def spelt (s : TS) (c : Int) : Int := if (if s.use = 1 then s.second else s.first) = 1 then lineOf c else c
/-- A character of the width wd is put. -/
def putNow (s : TS) (c : Int) (wd : Nat) : TS := s.setRowNow (putR s.rowNow s.col.toNat (s.spelt c) wd s.pen)
def insNow (s : TS) (wd : Nat) : TS := s.setRowNow (insertR s.rowNow s.col.toNat wd)
def step (s : TS) (wd : Nat) : TS := { s.toCol (s.col + (wd : Int)) with waits := s.wrap && decide ((s.cols : Int) - 1 < s.col + (wd : Int)) }
def unwait (s : TS) : TS := { s with waits := false }
def print1 (s : TS) : TS := if s.waits then s.unwait.nextLine else s
def print2 (s : TS) (c : Int) (wd : Nat) : TS := ((if s.insert then s.insNow wd else s).putNow c wd).step wd
def print (s : TS) (c : Int) (wd : Nat) : TS :=
  if wd = 0 ∨ s.cols < wd then s
  else if (s.cols : Int) < s.print1.col + (wd : Int) then (if s.print1.wrap then s.print1.nextLine.print2 c wd else s.print1)
  else s.print1.print2 c wd

def control (s : TS) (c : Int) : TS :=
  let t := if 8 ≤ c ∧ c ≤ 13 then s.unwait else s
  if c = 8 then t.toCol (t.col - 1) else if c = 9 then t.nextTab else if c = 10 ∨ c = 11 ∨ c = 12 then t.down else if c = 13 then t.toCol 0
  else if c = 14 then { t with use := 1 } else if c = 15 then { t with use := 0 } else t
def alphabetOf (f b : Int) : Int := if f = 66 then 0 else if f = 48 then 1 else b
def bare (s : TS) (f : Int) : TS :=
  if f = 55 then s.save else if f = 56 then s.restore else if f = 68 then s.unwait.down else if f = 77 then s.unwait.up else if f = 69 then s.unwait.nextLine
  else if f = 72 then { s with tabs := s.tabs.set s.col.toNat true } else if f = 99 then fresh s.rows s.cols else s
def escape (s : TS) (mark f : Int) : TS :=
  if mark = 0 then s.bare f else if mark = 40 then { s with first := alphabetOf f s.first } else if mark = 41 then { s with second := alphabetOf f s.second } else s

def times (n : Int) : Int := max n 1
def amount (n : Int) : Int := max n 0
def move (s : TS) (f p0 p1 : Int) : TS :=
  if f = 65 then s.rise (times p0) else if f = 66 then s.sink (times p0) else if f = 67 then s.toCol (s.col + times p0) else if f = 68 then s.toCol (s.col - times p0)
  else if f = 71 then s.toCol (times p0 - 1) else if f = 100 then s.toCounted (times p0 - 1) else if f = 72 ∨ f = 102 then (s.toCounted (times p0 - 1)).toCol (times p1 - 1) else s
def clearRow (s : TS) (what : Int) : TS :=
  if what = 0 then s.setRowNow (clearR s.rowNow s.col.toNat s.cols) else if what = 1 then s.setRowNow (clearR s.rowNow 0 (s.col.toNat + 1)) else if what = 2 then s.setRowNow (clearR s.rowNow 0 s.cols) else s
def clearOther (s : TS) (what : Int) : TS :=
  if what = 0 then s.setCur (clearRows s.cur (s.row.toNat + 1) s.cols (s.rows - (s.row.toNat + 1))) else if what = 1 then s.setCur (clearRows s.cur 0 s.cols s.row.toNat) else if what = 2 then s.setCur (clearRows s.cur 0 s.cols s.rows) else s
def inRegion (s : TS) : Bool := decide (s.top ≤ s.row ∧ s.row ≤ s.bottom)
def below (s : TS) : Nat := (s.bottom + 1 - s.row).toNat
def edit (s : TS) (f p0 : Int) : TS :=
  let n := (times p0).toNat
  if f = 74 then (s.clearRow (amount p0)).clearOther (amount p0) else if f = 75 then s.clearRow (amount p0) else if f = 64 then s.setRowNow (insertR s.rowNow s.col.toNat n)
  else if f = 80 then s.setRowNow (removeR s.rowNow s.col.toNat n) else if f = 88 then s.setRowNow (clearR s.rowNow s.col.toNat (min (s.col.toNat + n) s.cols))
  else if f = 76 then (if s.inRegion then (s.setCur (downS s.cur s.row.toNat s.below n s.cols)).toCol 0 else s)
  else if f = 77 then (if s.inRegion then (s.setCur (upS s.cur s.row.toNat s.below n s.cols)).toCol 0 else s)
  else if f = 83 then s.scrollUp n else if f = 84 then s.scrollDown n else s
def setRegion (s : TS) (top bottom : Int) : TS :=
  let b := if bottom < 0 ∨ (s.rows : Int) - 1 < bottom then (s.rows : Int) - 1 else bottom
  if b ≤ top then s else { s with top := top, bottom := b }.home
def clearTabs (s : TS) (what : Int) : TS := if what = 0 then { s with tabs := s.tabs.set s.col.toNat false } else if what = 3 then { s with tabs := List.replicate s.tabs.length false } else s
def turn (p : PenS) (n : Int) : PenS :=
  if n = 0 then pen0 else if n = 1 ∨ n = 22 then { p with b := decide (n = 1) } else if n = 4 ∨ n = 24 then { p with u := decide (n = 4) } else if n = 7 ∨ n = 27 then { p with t := decide (n = 7) }
  else if 30 ≤ n ∧ n ≤ 37 then { p with f := n - 29 } else if n = 39 then { p with f := 0 } else if 40 ≤ n ∧ n ≤ 47 then { p with k := n - 39 } else if n = 49 then { p with k := 0 } else p
def turns (s : TS) : List Int → TS
  | [] => s
  | n :: l => ({ s with pen := turn s.pen (amount n) } : TS).turns l
def adjust (s : TS) (f : Int) (ps : List Int) (ct : Nat) : TS :=
  if f = 114 then s.setRegion (times (ps.getD 0 0) - 1) (amount (ps.getD 1 0) - 1) else if f = 103 then s.clearTabs (amount (ps.getD 0 0)) else if f = 109 then s.turns (ps.take ct)
  else if f = 104 ∨ f = 108 then (if ps.getD 0 0 = 4 then { s with insert := decide (f = 104) } else s) else s
def set1 (s : TS) (n : Int) (on : Bool) : TS :=
  if n = 6 then ({ s with origin := on } : TS).home else if n = 7 then { s with wrap := on, waits := s.waits && on } else if n = 47 then { s with shown := if on then 1 else 0 } else s
def sets (s : TS) (on : Bool) : List Int → TS
  | [] => s
  | n :: l => (s.set1 n on).sets on l
def stills (f : Int) : Bool := decide (f ∈ [65, 66, 67, 68, 71, 100, 72, 102, 64, 80, 88, 76, 77])
def sequence (s : TS) (mark f : Int) (ps : List Int) (ct : Nat) : TS :=
  if mark = 0 then
    let t := if stills f then s.unwait else s
    ((t.move f (ps.getD 0 0) (ps.getD 1 0)).edit f (ps.getD 0 0)).adjust f ps ct
  else if mark = 63 then (if f = 104 ∨ f = 108 then s.sets (decide (f = 104)) (ps.take ct) else s) else s
end TS
end Go.Proofs.YtheibfffilomcaaDoor
