/- The book of lists: what lies in memory, and that looking at it again finds what was written. -/
import Derived.Test.YtheibfffilomcaaDoorDefs
import Derived.Test.YtheibfffilomcaaDoorApp
import Derived.Deep.QuietTactic
import Derived.BigQuiet
namespace Go.Proofs.YtheibfffilomcaaDoor
open Go.RowKit

/-- A list of one-cell elements: its value, its cells. -/
theorem row_form {w : World} {base : Nat} {e : TypeId} {v : Value} {n : Nat} {xs : List Value} (h : w.ownsRow base e 1 v n xs) :
    ∃ ao cap, v = .slice ao n cap ∧ ∀ j x, xs[j]? = some x → ∃ g, ao = some ⟨g, 0, none⟩ ∧ w.cell? ⟨g, j, none⟩ = some x := by
  obtain ⟨h1, h2⟩ := h
  rcases h2 with ⟨rfl, h0⟩ | ⟨g, cap, cur, rfl, _, hg, hn, _, hcs, htake⟩
  · refine ⟨none, 0, by rw [h0], fun j x hj => ?_⟩
    have : xs = [] := List.eq_nil_of_length_eq_zero (by rw [h1, h0])
    subst this; simp at hj
  · refine ⟨_, cap, rfl, fun j x hj => ⟨g, rfl, ?_⟩⟩
    rw [cell_of_row _ _ _ _ _ _ hg]
    rw [← htake, List.getElem?_take] at hj
    split at hj
    · simpa using hj
    · cases hj

/-- The book: its cells, the lists of numbers that came out, their marks, what lies in them; no other lists. -/
structure BkRaw (w : World) (bb : Nat) (vi vm : Value) (I : List Value) (M : List Int) (E : List (Value × Int)) (nx : Int) : Prop where
  c0 : w.cell? ⟨bb, 0, none⟩ = some vi
  c1 : w.cell? ⟨bb, 1, none⟩ = some vm
  c2 : w.cell? ⟨bb, 2, none⟩ = some (.slice none 0 0)
  c3 : w.cell? ⟨bb, 3, none⟩ = some (.slice none 0 0)
  c4 : w.cell? ⟨bb, 4, none⟩ = some (.slice none 0 0)
  c5 : w.cell? ⟨bb, 5, none⟩ = some (.slice none 0 0)
  c6 : w.cell? ⟨bb, 6, none⟩ = some (.int .i64 nx)
  f : ∀ j, j < 7 → w.frozen? ⟨bb, j, none⟩ = false
  oi : w.ownsRow (bb + 1) 26 1 vi I.length I
  om : LsAt w (bb + 1) vm M
  ent : ∀ x ∈ E, Apart x.1 vm ∧ ∃ p, p ≤ 1000000000 ∧ LsAt w (bb + 1) x.1 (List.replicate p x.2)

abbrev BkAt (w : World) (bb : Nat) (vi vm : Value) (E : List (Value × Int)) (nx : Int) : Prop := BkRaw w bb vi vm (E.map (·.1)) (E.map (·.2)) E nx

theorem BkRaw.below {w w' : World} {bb : Nat} {vi vm : Value} {I : List Value} {M : List Int} {E : List (Value × Int)} {nx : Int} (h : BkRaw w bb vi vm I M E nx) (hb : Below w.heap.size w w') : BkRaw w' bb vi vm I M E nx := by
  have hlt : bb < w.heap.size := World.block_lt_of_cell? _ _ h.c0
  have hg : w.grownBy w' none := ⟨hb.os, hb.tape, hb.output, hb.size, fun k hk _ => hb.block k hk⟩
  have hr : ∀ {base e size v n xs}, w.ownsRow base e size v n xs → w'.ownsRow base e size v n xs := fun {_ _ _ v _ _} h => h.kept hg (by cases hv : v.ownBlock <;> simp)
  refine ⟨(hb.cell hlt).trans h.c0, (hb.cell hlt).trans h.c1, (hb.cell hlt).trans h.c2, (hb.cell hlt).trans h.c3, (hb.cell hlt).trans h.c4, (hb.cell hlt).trans h.c5, (hb.cell hlt).trans h.c6,
    fun j hj => (hb.frozen hlt).trans (h.f j hj), hr h.oi, hr h.om, fun x hx => ?_⟩
  obtain ⟨a, p, hp, hl⟩ := h.ent x hx
  exact ⟨a, p, hp, hr hl⟩

/-- What is read of the i-th list. -/
theorem BkRaw.entry {w : World} {bb : Nat} {vi vm : Value} {E : List (Value × Int)} {nx : Int} (h : BkAt w bb vi vm E nx) :
    ∃ ai ci am cm, vi = .slice ai E.length ci ∧ vm = .slice am E.length cm ∧
      ∀ i, i < E.length → ∃ gi gm ax p cx m, ai = some ⟨gi, 0, none⟩ ∧ am = some ⟨gm, 0, none⟩ ∧ w.cell? ⟨gi, i, none⟩ = some (.slice ax p cx) ∧ w.cell? ⟨gm, i, none⟩ = some (.int .i64 m) ∧ p ≤ 1000000000 ∧
        ∀ k, k < p → ∃ g, ax = some ⟨g, 0, none⟩ ∧ w.cell? ⟨g, k, none⟩ = some (.int .i64 m) := by
  obtain ⟨ai, ci, e1, q1⟩ := row_form h.oi
  obtain ⟨am, cm, e2, q2⟩ := row_form h.om
  refine ⟨ai, ci, am, cm, by simpa using e1, by simpa using e2, fun i hi => ?_⟩
  obtain ⟨gi, g1, g2⟩ := q1 i (E[i]).1 (by simp [List.getElem?_eq_getElem hi])
  obtain ⟨gm, g3, g4⟩ := q2 i (.int .i64 (E[i]).2) (by simp [List.getElem?_eq_getElem hi])
  obtain ⟨_, p, hp, hl⟩ := h.ent _ (List.getElem_mem hi)
  obtain ⟨ax, cx, e3, q3⟩ := row_form hl
  rw [e3] at g2
  simp only [List.length_replicate] at g2
  refine ⟨gi, gm, ax, p, cx, (E[i]).2, g1, g3, g2, g4, hp, fun k hk => ?_⟩
  exact q3 k _ (by simp [hk])

set_option maxHeartbeats 1000000 in
theorem looks_any (bb : Nat) (vi vm : Value) (E : List (Value × Int)) (nx : Int) (w : World) (hE : E.length ≤ 1000000000) (h : BkAt w bb vi vm E nx) :
    Calls Tryd.prog 13 #[.pointer (some ⟨bb, 0, none⟩)] w fun e w' => e = .returned (.bool true) ∧ Below w.heap.size w w' := by
  obtain ⟨ai, ci, am, cm, rfl, rfl, q⟩ := h.entry
  have c0 := h.c0
  have c1 := h.c1
  have c2 := h.c2
  have c4 := h.c4
  have Q : Hid _ := q
  clear q h
  go_enter Tryd.func13, Tryd.ntmps13
  go_wp2_with fail
  go_loopw [3] (fun i wr => ∃ k : Nat, k ≤ E.length ∧ i = .int .i64 k ∧ Below w.heap.size w wr) (fun i _ => E.length - (intOf i).toNat)
  case atStart => exact ⟨0, Nat.zero_le _, rfl, Below.refl _ _⟩
  case round =>
    obtain ⟨k, hk, rfl, hb⟩ := hrel
    have d0 := cell_later hb c0
    have d1 := cell_later hb c1
    have d2 := cell_later hb c2
    have d4 := cell_later hb c4
    by_cases hlt : k < E.length
    · obtain ⟨gi, gm, ax, p, cx, m, rfl, rfl, q1, q2, hp, q3⟩ := Q.out k hlt
      have Q3 : Hid _ := q3
      have r1 := cell_later hb q1
      clear q3
      go_wp2_with fail
      go_loopw [4] (fun j wx => ∃ a : Nat, a ≤ p ∧ j = .int .i64 a ∧ Below w.heap.size w wx) (fun j _ => p - (intOf j).toNat)
      case atStart => exact ⟨0, Nat.zero_le _, rfl, hb⟩
      case round =>
        obtain ⟨a, ha, rfl, hx⟩ := hrel
        clear d0 d1 d2 d4 r1
        have d0 := cell_later hx c0
        have d1 := cell_later hx c1
        have r1 := cell_later hx q1
        have r2 := cell_later hx q2
        by_cases hap : a < p
        · obtain ⟨g, rfl, q3⟩ := Q3.out a hap
          have r3 := cell_later hx q3
          have hmm : (m != m) = false := by simp
          have i1 : (k : Int) < (E.length : Int) := by omega
          have i2 : (a : Int) < (p : Int) := by omega
          clear q1 q2 q3 c0 c1 c2 c4
          go_wp2_with fail
          go_quiet (fail)
          go_wp2_with fail
          go_roundw
          case rel => exact ⟨a + 1, by omega, by go_num, below_drewN hx _⟩
          case measure => simp [intOf]; omega
        · go_wp2_with fail
          go_roundw
          case rel => exact ⟨k + 1, by omega, by go_num, hx⟩
          case measure => simp [intOf]; omega
    · go_wp2_with fail
      go_loop [5] (fun j => j = .int .i64 0) (fun _ => 0)
      case atStart => rfl
      case round =>
        obtain rfl := hrel
        go_wp2_with fail
        go_loop [8] (fun j => j = .int .i64 0) (fun _ => 0)
        case atStart => rfl
        case round =>
          obtain rfl := hrel
          go_wp2_with fail
          go_ret
          exact ⟨rfl, hb⟩

end Go.Proofs.YtheibfffilomcaaDoor
