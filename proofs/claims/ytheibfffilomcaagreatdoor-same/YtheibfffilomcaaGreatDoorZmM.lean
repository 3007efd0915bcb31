/- Za Qn Zb Zc Zm together. -/
import Derived.Test.YtheibfffilomcaaGreatDoorXhM
import Derived.Test.YtheibfffilomcaaGreatDoorPdM
import Derived.Test.YtheibfffilomcaaGreatDoorWd
import Derived.Lib.Builder
import Derived.Lib.AppendStr
import Derived.Lib.UnsafeStr
import Derived.Test.YtheibfffilomcaaGreatDoorWf
import Derived.BigRegion

/- The writer in memory; the walks of strings.Builder on it. -/
namespace Go.Proofs.YtheibfffilomcaaGreatDoor
open Go.RowKit

/-- A writer's cells: the terminal, the builder (its own address, its buffer), the pen. -/
def wrV (tb : Nat) (p v : Value) (q : PenS) : List Value := [.pointer (some ⟨tb, 0, none⟩), p, v, .bool q.b, .bool q.u, .bool q.t, .int .i64 q.f, .int .i64 q.k]
/-- Bytes of the call's own. -/
def BsAt (w : World) (base : Nat) (v : Value) (L : List Int) : Prop := w.ownsRow base 5 1 v L.length (L.map (Value.int .u8))
theorem strCells_bl (s : ByteArray) : Lib.strCells s = (bl s).map (Value.int .u8) := by
  unfold Lib.strCells bl
  rw [List.map_map]; rfl
def selfP (wb : Nat) : Value := .pointer (some ⟨wb, 1, none⟩)
/-- A writer lies in memory. -/
structure WrAt (w : World) (wb tb : Nat) (x : WS) : Prop where
  ex : ∃ p v, w.heap[wb]? = some (.cells (wrV tb p v x.pen).toArray 133 (0, 0)) ∧ (p = .pointer none ∨ p = selfP wb) ∧ BsAt w (wb + 1) v x.tx
  by8 : ∀ i ∈ x.tx, 0 ≤ i ∧ i < 256
theorem WrAt.lt {w : World} {wb tb : Nat} {x : WS} (h : WrAt w wb tb x) : wb < w.heap.size := by
  obtain ⟨p, v, h, _⟩ := h.ex; exact blk_lt h
theorem BsAt.keep {w w' : World} {base : Nat} {v : Value} {L : List Int} (h : BsAt w base v L) (hb : ∀ k, base ≤ k → k < w.heap.size → w'.heap[k]? = w.heap[k]?) : BsAt w' base v L := by
  obtain ⟨h1, h2⟩ := h
  refine ⟨h1, ?_⟩
  rcases h2 with h2 | ⟨g, cap, cur, hv, hg, hk, r⟩
  · exact .inl h2
  · exact .inr ⟨g, cap, cur, hv, hg, (hb g hg (blk_lt hk)).trans hk, r⟩
theorem WrAt.keep {w w' : World} {wb tb : Nat} {x : WS} (h : WrAt w wb tb x) (c : Below w.heap.size w w') : WrAt w' wb tb x := by
  obtain ⟨p, v, h1, h2, h3⟩ := h.ex
  exact ⟨⟨p, v, (c.block _ (blk_lt h1)).trans h1, h2, h3.keep (fun k _ hk => c.block k hk)⟩, h.by8⟩
/-- Below the writer nothing is changed; above it only rows of bytes are. -/
structure Wk (wb : Nat) (w w' : World) : Prop where
  b : Below wb w w'
  n : ∀ k, k < w.heap.size → k ≠ wb → (∀ cs fr, w.heap[k]? ≠ some (.cells cs 5 fr)) → w'.heap[k]? = w.heap[k]?
theorem Wk.trans {wb : Nat} {w u v : World} (h : Wk wb w u) (k : Wk wb u v) : Wk wb w v :=
  ⟨h.b.trans k.b, fun i hi hn hb => by
    have e := h.n i hi hn hb
    exact (k.n i (Nat.lt_of_lt_of_le hi h.b.size) hn (fun cs fr => by rw [e]; exact hb cs fr)).trans e⟩
theorem Wk.of_below {wb : Nat} {w w' : World} (h : Below w.heap.size w w') (hl : wb ≤ w.heap.size) : Wk wb w w' := ⟨h.mono hl, fun k hk _ _ => h.block k hk⟩
theorem Wk.refl (wb : Nat) (w : World) : Wk wb w w := ⟨Below.refl _ _, fun _ _ _ _ => rfl⟩
theorem Wk.at {wb : Nat} {w w' : World} (h : Wk wb w w') {k : Nat} {cs : Array Value} {t : TypeId} {fr : Nat × Nat} (hk : w.heap[k]? = some (.cells cs t fr)) (hn : k ≠ wb) (ht : t ≠ 5) : w'.heap[k]? = some (.cells cs t fr) :=
  (h.n k (blk_lt hk) hn (fun cs' fr' e => by rw [hk] at e; injection e with e; injection e with _ e2 _; exact ht e2)).trans hk
theorem BsAt.nb {w : World} {base : Nat} {v : Value} {L : List Int} (h : BsAt w base v L) {k : Nat} (hk : v.ownBlock = some k) : ∃ cur, w.heap[k]? = some (.cells cur 5 (0, 0)) := by
  rcases h.2 with ⟨rfl, _⟩ | ⟨g, cap, cur, rfl, _, hg, _⟩
  · simp [Value.ownBlock] at hk
  · simp only [Value.ownBlock, Option.some.injEq] at hk
    subst hk; exact ⟨cur, hg⟩
/-- Only a value's own row is changed, and new blocks come. -/
structure Gr (v : Value) (w w' : World) : Prop where
  os : w'.os = w.os
  tape : w'.tape = w.tape
  output : w'.output = w.output
  size : w.heap.size ≤ w'.heap.size
  block : ∀ k, k < w.heap.size → v.ownBlock ≠ some k → w'.heap[k]? = w.heap[k]?
theorem info5b : (Tryz.prog.info? 5).map (fun i => (i.zero, i.size, i.bytes)) = some (some (.int .u8 0), 1, 1) := by kernel_rfl
theorem infoPz : (Tryz.prog.info? 131).map (·.size) = some 2 := by kernel_rfl
theorem infoPb : ∃ j, Tryz.prog.info? 131 = some j ∧ j.size ≠ 0 := by
  have h := infoPz
  cases e : Tryz.prog.info? 131 with
  | none => rw [e] at h; cases h
  | some j => rw [e] at h; simp at h; exact ⟨j, rfl, by omega⟩

set_option maxRecDepth 100000 in
theorem copyCheck_any (wb tb : Nat) (p v : Value) (q : PenS) (w : World) (h : w.heap[wb]? = some (.cells (wrV tb p v q).toArray 133 (0, 0))) (hp : p = .pointer none ∨ p = selfP wb) :
    Calls Tryz.prog 206 #[.pointer (some ⟨wb, 1, none⟩)] w fun e w' => e = .returned (.tuple #[]) ∧ w'.heap[wb]? = some (.cells (wrV tb (selfP wb) v q).toArray 133 (0, 0)) ∧ Ch (· = wb) w w' := by
  have c1 : w.cell? ⟨wb, 1, none⟩ = some p := (cell_of_row _ _ _ _ _ _ h).trans rfl
  have f1 : w.frozen? ⟨wb, 1, none⟩ = false := frozen_of_row _ _ _ _ _ h
  have hsh : w.shape? wb = some (133, 8) := by simp [World.shape?, h, wrV]
  obtain ⟨j, hj, hj0⟩ := infoPb
  have hu1 : (convert 128 222 (.pointer (some ⟨wb, 1, none⟩))).run Tryz.prog w = .ok (.pointer (some ⟨wb, 1, none⟩)) w := Lib.run_to_unsafe w ⟨wb, 1, none⟩ (by kernel_rfl) (by kernel_rfl) hj hj0 hsh (show 1 < 8 by decide)
  have hu2 : (convert 222 128 (.pointer (some ⟨wb, 1, none⟩))).run Tryz.prog w = .ok (.pointer (some ⟨wb, 1, none⟩)) w := Lib.run_from_unsafe w ⟨wb, 1, none⟩ (by kernel_rfl) (by kernel_rfl) hj hsh (by kernel_rfl)
  have hne : ∀ u : World, (binOp .neq 128 (.pointer (some ⟨wb, 1, none⟩)) (.pointer (some ⟨wb, 1, none⟩))).run Tryz.prog u = .ok (.bool false) u := fun u => Lib.run_neq_ptr_same u ⟨wb, 1, none⟩ (by kernel_rfl) hj
  have hext : ∀ u : World, (callFunc 234 #[.pointer (some ⟨wb, 1, none⟩)]).run Tryz.prog u = .ok (.value (.pointer (some ⟨wb, 1, none⟩))) u := by intro u; kernel_rfl
  have H : Hid _ := h
  have hcs : ∀ x : Value, (w.setCell ⟨wb, 1, none⟩ x).cell? ⟨wb, 1, none⟩ = some x := fun x => by
    rw [cell_of_row _ _ _ _ _ _ (heap_setCell_same w wb 1 _ _ _ h)]; rfl
  clear h hj hj0 hsh
  rcases hp with rfl | rfl
  · go_enter Tryz.func206, Tryz.ntmps206
    go_wp2_with fail
    go_end0
    refine ⟨rfl, ?_, (Ch.refl _ _).set _ _ _ (fun _ => rfl)⟩
    rw [heap_setCell_same w wb 1 _ _ _ H.out]
    rfl
  · unfold selfP at *
    go_enter Tryz.func206, Tryz.ntmps206
    go_wp2_with fail
    go_end0
    exact ⟨rfl, H.out, Ch.refl _ _⟩

theorem WrAt.of {w : World} {wb tb : Nat} {p v : Value} {x : WS} (h : w.heap[wb]? = some (.cells (wrV tb p v x.pen).toArray 133 (0, 0))) (hp : p = .pointer none ∨ p = selfP wb) (hb : BsAt w (wb + 1) v x.tx) (h8 : ∀ i ∈ x.tx, 0 ≤ i ∧ i < 256) : WrAt w wb tb x := ⟨⟨p, v, h, hp, hb⟩, h8⟩
theorem by8_put {x : WS} {l : List Int} (h : ∀ i ∈ x.tx, 0 ≤ i ∧ i < 256) (k : ∀ i ∈ l, 0 ≤ i ∧ i < 256) : ∀ i ∈ (x.put l).tx, 0 ≤ i ∧ i < 256 := by
  intro i hi
  rcases List.mem_append.1 (show i ∈ x.tx ++ l from hi) with e | e
  · exact h i e
  · exact k i e
theorem bl_by8 (s : ByteArray) : ∀ i ∈ bl s, 0 ≤ i ∧ i < 256 := by
  intro i hi
  unfold bl at hi
  obtain ⟨b, _, rfl⟩ := List.mem_map.1 hi
  have := b.toNat_lt
  omega
theorem BsAt.ne {w : World} {wb : Nat} {v : Value} {L : List Int} (h : BsAt w (wb + 1) v L) {k : Nat} (hk : v.ownBlock = some k) : wb < k := ((World.ownsRow.lt h) k hk).1

set_option maxRecDepth 100000 in
theorem writeString_any (wb tb : Nat) (x : WS) (s : ByteArray) (w : World) (h : WrAt w wb tb x) (hx : x.tx.length ≤ 900000000) (hs : s.size ≤ 100000) :
    Calls Tryz.prog 150 #[.pointer (some ⟨wb, 1, none⟩), .string s] w fun e w' => (∃ v, e = .returned v) ∧ WrAt w' wb tb (x.put (bl s)) ∧ Wk wb w w' := by
  obtain ⟨p, v, h1, h2, h3⟩ := h.ex
  have l1 := copyCheck_any wb tb p v x.pen w h1 h2
  have HB : Hid (BsAt w (wb + 1) v x.tx) := h3
  have H8 : Hid (∀ i ∈ x.tx, 0 ≤ i ∧ i < 256) := h.by8
  have hlt := blk_lt h1
  clear h h1 h2 h3
  go_enter Tryz.func150, Tryz.ntmps150
  go_wp2_with fail
  refine l1.mono ?_
  rintro e w1 ⟨rfl, g1, k1⟩
  have c2 : w1.cell? ⟨wb, 2, none⟩ = some v := (cell_of_row _ _ _ _ _ _ g1).trans rfl
  have B1 : BsAt w1 (wb + 1) v x.tx := HB.out.keep (fun k hk hks => k1.block k hks (by omega))
  obtain ⟨i0, hi, hz0, hz1, hz2⟩ := info_parts info5b
  have HG : Hid _ := g1
  have hsz := k1.size
  clear g1 l1
  go_wp2_with (at_builtin; refine Lib.wpList_append_own_string w1 rfl (.tmp 12) (.tmp 13) 129 9 rfl (wb + 1) 5 i0 (by kernel_rfl) (by kernel_rfl) hi hz0 hz1 hz2 v _ _ rfl B1 s rfl (by unfold maxLen; omega) (by omega) (by omega) ?_)
  intro v2 w2 own2 gr2 _
  obtain ⟨ao, nn, cc, rfl⟩ : ∃ ao nn cc, v2 = .slice ao nn cc := by rcases own2.2 with ⟨rfl, _⟩ | ⟨g, cap, cur, rfl, _⟩ <;> exact ⟨_, _, _, rfl⟩
  have g2 : w2.heap[wb]? = some (.cells (wrV tb (selfP wb) v x.pen).toArray 133 (0, 0)) := (gr2.block wb (blk_lt HG.out) (fun e => by have := B1.ne e.symm; omega)).trans HG.out
  have f2 : w2.frozen? ⟨wb, 2, none⟩ = false := frozen_of_row _ _ _ _ _ g2
  have c22 : w2.cell? ⟨wb, 2, none⟩ = some v := (cell_of_row _ _ _ _ _ _ g2).trans rfl
  have HG2 : Hid _ := g2
  have HO2 : Hid _ := own2
  have HGr : Hid _ := gr2
  clear g2 own2 gr2 c2
  go_wp2_with fail
  go_ret2
  have hg3 : (w2.setCell ⟨wb, 2, none⟩ (.slice ao nn cc)).heap[wb]? = _ := heap_setCell_same w2 wb 2 _ _ _ HG2.out
  have hso : ∀ k, k ≠ wb → (w2.setCell ⟨wb, 2, none⟩ (.slice ao nn cc)).heap[k]? = w2.heap[k]? := fun k hk => Below.heap_setCell _ _ _ _ (fun e => hk e)
  refine ⟨⟨_, rfl⟩, WrAt.of (p := selfP wb) (v := .slice ao nn cc) (hg3.trans rfl) (.inr rfl) ?_ (by8_put H8.out (bl_by8 s)), ?_⟩
  · have e : (x.put (bl s)).tx = x.tx ++ bl s := rfl
    have o3 := HO2.out
    rw [strCells_bl, ← List.map_append] at o3
    rw [e]
    refine BsAt.keep (w := w2) ?_ (fun k hk _ => hso k (by omega))
    unfold BsAt
    rw [List.length_append, bl_length]; exact o3
  · have b1 : Below wb w w1 := k1.below (by omega) (fun k hk e => by omega)
    have b2 : Below wb w1 w2 := ⟨HGr.out.os, HGr.out.tape, HGr.out.output, HGr.out.size, fun k hk => HGr.out.block k (by omega) (fun e => by have := B1.ne e.symm; omega)⟩
    refine ⟨(b1.trans b2).trans ⟨rfl, rfl, rfl, by simp, fun k hk => hso k (by omega)⟩, fun k hk hn hb => ?_⟩
    refine (hso k hn).trans ((HGr.out.block k (by omega) (fun e => ?_)).trans (k1.block k hk hn))
    obtain ⟨cur, hc⟩ := B1.nb e.symm
    exact hb cur (0, 0) ((k1.block k hk hn).symm.trans hc)
end Go.Proofs.YtheibfffilomcaaGreatDoor

/- The walk of numbers: the digits and semicolons of a text. -/
namespace Go.Proofs.YtheibfffilomcaaGreatDoor
open Go.RowKit

def numC (c : Int) : Bool := decide (48 ≤ c ∧ c ≤ 59 ∧ c ≠ 58)
def numL (l : List Int) : List Int := l.filter numC
theorem numL_all (l : List Int) : ∀ c ∈ numL l, numC c = true := fun _ hc => (List.mem_filter.1 hc).2
theorem numL_snoc (l : List Int) (c : Int) : numL (l ++ [c]) = numL l ++ (if numC c then [c] else []) := by
  unfold numL
  rw [List.filter_append]
  congr 1
  cases h : numC c <;> simp [h]
theorem bl_ext (s : ByteArray) (a b : Nat) : bl (s.extract a b) = ((bl s).drop a).take (b - a) := by
  unfold bl
  rw [ByteArray.data_extract, Array.toList_extract, List.extract_eq_take_drop, List.map_take, List.map_drop]
theorem bl_one (s : ByteArray) (k : Nat) (h : k < s.size) : bl (s.extract k (k + 1)) = [((s[k]'h).toNat : Int)] := by
  rw [bl_ext, bl_at s k h, show k + 1 - k = 1 by omega]
  rfl
theorem ext_size (s : ByteArray) (k : Nat) (h : k < s.size) : (s.extract k (k + 1)).size = 1 := by
  rw [← bl_length, bl_one s k h]; rfl

set_option maxHeartbeats 1000000 in
theorem numbers_any (s : ByteArray) (w : World) (hs : s.size ≤ 281474976710656) :
    Calls Tryz.prog 17 #[.string s] w fun e w' => ∃ U : ByteArray, e = .returned (.string U) ∧ Hid (bl U = numL (bl s)) ∧ U.size ≤ s.size ∧ w' = w := by
  go_enter Tryz.func17, Tryz.ntmps17
  go_wp2_with fail
  go_loopw [3, 4] (fun t i wr => ∃ (k : Nat) (U : ByteArray), k ≤ s.size ∧ i = .int .i64 k ∧ t = .string U ∧ Hid (bl U = numL ((bl s).take k)) ∧ U.size ≤ k ∧ Hid (wr = w)) (fun _ i _ => s.size - (intOf i).toNat)
  case atStart => exact ⟨0, _, Nat.zero_le _, rfl, rfl, rfl, Nat.le_refl _, rfl⟩
  case round =>
    obtain ⟨k, U, hk, rfl, rfl, HU, hU, hwr⟩ := hrel
    by_cases hlt : k < s.size
    · have hbt := bl_take s k hlt
      have hx1 : (s[k]'hlt).toNat < 256 := UInt8.toNat_lt _
      have HN : Hid (numL ((bl s).take (k + 1)) = numL ((bl s).take k) ++ (if numC ((s[k]'hlt).toNat : Int) then [((s[k]'hlt).toNat : Int)] else [])) := by
        rw [hbt]; exact numL_snoc _ _
      have HO : Hid (bl (s.extract k (k + 1)) = [((s[k]'hlt).toNat : Int)]) := bl_one s k hlt
      have HZ : Hid ((s.extract k (k + 1)).size = 1) := ext_size s k hlt
      have hik : (k : Int) < (s.size : Int) := by omega
      have hk1 : ((k : Int) + 1) ≤ (s.size : Int) := by omega
      have v1 : IntKind.i64.wrap ((k : Int) + 1) = (k : Int) + 1 := IntWalk.i64_in _ (by omega)
      clear hbt
      by_cases c1 : 48 ≤ (s[k]'hlt).toNat
      · by_cases c2 : (s[k]'hlt).toNat ≤ 59
        · by_cases c3 : (s[k]'hlt).toNat = 58
          · have HF : Hid (numC ((s[k]'hlt).toNat : Int) = false) := by
              unfold numC; rw [c3]; exact rfl
            have c3' : ((s[k]'hlt).toNat : Int) = 58 := by omega
            go_wp2_with fail
            go_roundw
            case rel => exact ⟨k + 1, U, by omega, by go_num, rfl, by rw [HN.out, HF.out]; simp; exact HU, by omega, hwr⟩
            case measure => simp [intOf]; omega
          · have HF : Hid (numC ((s[k]'hlt).toNat : Int) = true) := by unfold numC; exact decide_eq_true (by omega)
            go_wp2_with fail
            go_roundw
            case rel => exact ⟨k + 1, U ++ s.extract k (k + 1), by omega, by go_num, rfl, by rw [HN.out, HF.out]; exact (by rw [bl_append, HU.out, HO.out]; rfl), by rw [ByteArray.size_append, HZ.out]; omega, hwr⟩
            case measure => simp [intOf]; omega
        · have HF : Hid (numC ((s[k]'hlt).toNat : Int) = false) := by unfold numC; exact decide_eq_false (by omega)
          go_wp2_with fail
          go_roundw
          case rel => exact ⟨k + 1, U, by omega, by go_num, rfl, by rw [HN.out, HF.out]; simp; exact HU, by omega, hwr⟩
          case measure => simp [intOf]; omega
      · have HF : Hid (numC ((s[k]'hlt).toNat : Int) = false) := by unfold numC; exact decide_eq_false (by omega)
        go_wp2_with fail
        go_roundw
        case rel => exact ⟨k + 1, U, by omega, by go_num, rfl, by rw [HN.out, HF.out]; simp; exact HU, by omega, hwr⟩
        case measure => simp [intOf]; omega
    · have hk : k = s.size := by omega
      subst hk
      have HA : Hid ((bl s).take s.size = bl s) := bl_all s
      go_wp2_with fail
      go_ret
      exact ⟨U, rfl, by rw [← HA.out]; exact HU, hU, hwr⟩
end Go.Proofs.YtheibfffilomcaaGreatDoor

/- The walks of Itoa, pair, sequence, place. -/
namespace Go.Proofs.YtheibfffilomcaaGreatDoor
open Go.RowKit

def digB : ByteArray := { data := #[48, 49, 50, 51, 52, 53, 54, 55, 56, 57, 97, 98, 99, 100, 101, 102, 103, 104, 105, 106, 107, 108, 109, 110, 111, 112, 113, 114, 115, 116, 117, 118, 119, 120, 121, 122] }

def smB : ByteArray := { data := #[48, 48, 48, 49, 48, 50, 48, 51, 48, 52, 48, 53, 48, 54, 48, 55, 48, 56, 48, 57, 49, 48, 49, 49, 49, 50, 49, 51, 49, 52, 49, 53, 49, 54, 49, 55, 49, 56, 49, 57, 50, 48, 50, 49, 50, 50, 50, 51, 50, 52, 50, 53, 50, 54, 50, 55, 50, 56, 50, 57, 51, 48, 51, 49, 51, 50, 51, 51, 51, 52, 51, 53, 51, 54, 51, 55, 51, 56, 51, 57, 52, 48, 52, 49, 52, 50, 52, 51, 52, 52, 52, 53, 52, 54, 52, 55, 52, 56, 52, 57, 53, 48, 53, 49, 53, 50, 53, 51, 53, 52, 53, 53, 53, 54, 53, 55, 53, 56, 53, 57, 54, 48, 54, 49, 54, 50, 54, 51, 54, 52, 54, 53, 54, 54, 54, 55, 54, 56, 54, 57, 55, 48, 55, 49, 55, 50, 55, 51, 55, 52, 55, 53, 55, 54, 55, 55, 55, 56, 55, 57, 56, 48, 56, 49, 56, 50, 56, 51, 56, 52, 56, 53, 56, 54, 56, 55, 56, 56, 56, 57, 57, 48, 57, 49, 57, 50, 57, 51, 57, 52, 57, 53, 57, 54, 57, 55, 57, 56, 57, 57] }
theorem dig_small : ∀ n : Nat, n < 10 → ((bl digB).drop n).take (n + 1 - n) = digN (n : Int) := by decide +kernel
theorem dig_big : ∀ n : Nat, n < 100 → 10 ≤ n → ((bl smB).drop (n * 2)).take (n * 2 + 2 - n * 2) = digN (n : Int) := by decide +kernel

set_option maxRecDepth 100000 in
theorem small_any (n : Nat) (hn : n < 100) (w : World) : Calls Tryz.prog 242 #[.int .i64 (n : Int)] w fun e w' => (∃ U : ByteArray, e = .returned (.string U) ∧ bl U = digN (n : Int)) ∧ w' = w := by
  by_cases h : n < 10
  · have hi : (n : Int) < 10 := by omega
    have v1 : IntKind.i64.wrap ((n : Int) + 1) = (n : Int) + 1 := IntWalk.i64_in _ (by omega)
    have i2 : (n : Int) + 1 ≤ 36 := by omega
    go_enter Tryz.func242, Tryz.ntmps242
    go_wp2_with fail
    go_ret
    exact ⟨⟨_, rfl, (bl_ext digB n (n + 1)).trans (dig_small n h)⟩, rfl⟩
  · have hi : ¬ (n : Int) < 10 := by omega
    have v1 : IntKind.i64.wrap ((n : Int) * 2) = (n : Int) * 2 := IntWalk.i64_in _ (by omega)
    have v2 : IntKind.i64.wrap ((n : Int) * 2 + 2) = (n : Int) * 2 + 2 := IntWalk.i64_in _ (by omega)
    have i2 : (n : Int) * 2 + 2 ≤ 200 := by omega
    go_enter Tryz.func242, Tryz.ntmps242
    go_wp2_with fail
    go_ret
    exact ⟨⟨_, rfl, (bl_ext smB (n * 2) (n * 2 + 2)).trans (dig_big n hn (by omega))⟩, rfl⟩

/-- The digits as a text. -/
def digS (n : Int) : ByteArray := strOfNums (digN n)
theorem digN_byte {n : Int} (h : 0 ≤ n ∧ n < 100) : ∀ x ∈ digN n, 0 ≤ x ∧ x < 256 := by
  intro x hx
  unfold digN at hx
  split at hx
  · simp at hx; omega
  · simp at hx; rcases hx with rfl | rfl <;> omega
theorem digS_bl {n : Int} (h : 0 ≤ n ∧ n < 100) : bl (digS n) = digN n := bl_nums _ (digN_byte h)
theorem digS_size (n : Int) : (digS n).size ≤ 2 := by
  unfold digS; rw [nums_size]; unfold digN; split <;> simp
theorem bl_inj {a b : ByteArray} (h : bl a = bl b) : a = b := by
  apply ByteArray.ext
  apply Array.toList_inj.1
  unfold bl at h
  exact List.map_inj_right (fun x y e => by
    have : x.toNat = y.toNat := by omega
    exact UInt8.toNat_inj.1 this) |>.1 h
theorem small_eq (n : Nat) (hn : n < 100) (w : World) : Calls Tryz.prog 242 #[.int .i64 (n : Int)] w fun e w' => e = .returned (.string (digS (n : Int))) ∧ w' = w := by
  refine (small_any n hn w).mono ?_
  rintro e w' ⟨⟨U, rfl, h1⟩, h2⟩
  exact ⟨by rw [bl_inj (h1.trans (digS_bl (by omega)).symm)], h2⟩
set_option maxRecDepth 100000 in
theorem itoa_any (n : Nat) (hn : n < 100) (w : World) : Calls Tryz.prog 149 #[.int .i64 (n : Int)] w fun e w' => e = .returned (.string (digS (n : Int))) ∧ w' = w := by
  have l1 := small_eq n hn w
  have i0 : (0 : Int) ≤ (n : Int) := by omega
  have i1 : (n : Int) < 100 := by omega
  generalize digS (n : Int) = D at *
  have l2 : Calls Tryz.prog 233 #[.int .i64 (n : Int), .int .i64 10] w fun e w' => e = .returned (.string D) ∧ w' = w := by
    go_enter Tryz.func233, Tryz.ntmps233
    go_wp2_with (go_at_call 242; refine l1.mono ?_; rintro e w1 ⟨rfl, hw1⟩; have hw2 := hw1.symm; subst hw2)
    go_ret
    exact ⟨rfl, rfl⟩
  have l3 : Calls Tryz.prog 205 #[.int .i64 (n : Int)] w fun e w' => e = .returned (.string D) ∧ w' = w := by
    go_enter Tryz.func205, Tryz.ntmps205
    go_wp2_with (go_at_call 233; refine l2.mono ?_; rintro e w1 ⟨rfl, hw1⟩; have hw2 := hw1.symm; subst hw2)
    go_ret
    exact ⟨rfl, rfl⟩
  go_enter Tryz.func149, Tryz.ntmps149
  go_wp2_with (go_at_call 205; refine l3.mono ?_; rintro e w1 ⟨rfl, hw1⟩; have hw2 := hw1.symm; subst hw2)
  go_ret
  exact ⟨rfl, rfl⟩

/-- Two places as a text. -/
def pairS (a b : Int) : ByteArray := digS (a + 1) ++ { data := #[59] } ++ digS (b + 1)
theorem pairS_bl {a b : Int} (ha : 0 ≤ a ∧ a < 99) (hb : 0 ≤ b ∧ b < 99) : bl (pairS a b) = pairN a b := by
  unfold pairS pairN
  rw [bl_append, bl_append, digS_bl (by omega), digS_bl (by omega), show bl ({ data := #[59] } : ByteArray) = [59] by kernel_rfl]
  simp
theorem pairS_size (a b : Int) : (pairS a b).size ≤ 5 := by
  have h1 := digS_size (a + 1)
  have h2 := digS_size (b + 1)
  have h3 : ({ data := #[59] } : ByteArray).size = 1 := rfl
  unfold pairS
  rw [ByteArray.size_append, ByteArray.size_append, h3]; omega
set_option maxRecDepth 100000 in
theorem pair_any (a b : Nat) (ha : a < 99) (hb : b < 99) (w : World) : Calls Tryz.prog 151 #[.int .i64 (a : Int), .int .i64 (b : Int)] w fun e w' => e = .returned (.string (pairS (a : Int) (b : Int))) ∧ w' = w := by
  have l1 := itoa_any (a + 1) (by omega) w
  have l2 := itoa_any (b + 1) (by omega) w
  have v1 : IntKind.i64.wrap ((a : Int) + 1) = (a : Int) + 1 := IntWalk.i64_in _ (by omega)
  have v2 : IntKind.i64.wrap ((b : Int) + 1) = (b : Int) + 1 := IntWalk.i64_in _ (by omega)
  rw [show (((a + 1 : Nat)) : Int) = (a : Int) + 1 by omega] at l1
  rw [show (((b + 1 : Nat)) : Int) = (b : Int) + 1 by omega] at l2
  have z1 := digS_size ((a : Int) + 1)
  have z2 := digS_size ((b : Int) + 1)
  unfold pairS
  generalize digS ((a : Int) + 1) = A at *
  generalize digS ((b : Int) + 1) = B at *
  go_enter Tryz.func151, Tryz.ntmps151
  go_wp2_with fail
  refine l1.mono ?_
  rintro e w1 ⟨rfl, hw1⟩
  have hw2 := hw1.symm
  subst hw2
  go_wp2_with fail
  refine l2.mono ?_
  rintro e w1 ⟨rfl, hw1⟩
  have hw2 := hw1.symm
  subst hw2
  go_wp2_with fail
  go_ret
  exact ⟨rfl, rfl⟩

set_option maxRecDepth 100000 in
theorem sequence_wr (wb tb : Nat) (x : WS) (s : ByteArray) (w : World) (h : WrAt w wb tb x) (hx : x.tx.length ≤ 800000000) (hs : s.size ≤ 90000) :
    Calls Tryz.prog 146 #[.pointer (some ⟨wb, 0, none⟩), .string s] w fun e w' => e = .returned (.tuple #[]) ∧ WrAt w' wb tb (x.seq (bl s)) ∧ Wk wb w w' := by
  have l1 := writeString_any wb tb x { data := #[27, 91] } w h (by omega) (by decide)
  go_enter Tryz.func146, Tryz.ntmps146
  go_wp2_with fail
  refine l1.mono ?_
  rintro e w1 ⟨⟨v1, rfl⟩, h1, b1⟩
  have l2 := writeString_any wb tb _ s w1 h1 (by show (x.tx ++ _).length ≤ _; rw [List.length_append, bl_length]; show x.tx.length + 2 ≤ 900000000; omega) (by omega)
  go_wp2_with fail
  refine l2.mono ?_
  rintro e w2 ⟨⟨v2, rfl⟩, h2, b2⟩
  go_wp2_with fail
  go_end0
  refine ⟨rfl, ?_, b1.trans b2⟩
  have e : (x.put (bl { data := #[27, 91] })).put (bl s) = x.seq (bl s) := by
    show (⟨x.tx ++ bl { data := #[27, 91] } ++ bl s, x.pen⟩ : WS) = ⟨x.tx ++ ([27, 91] ++ bl s), x.pen⟩
    rw [show bl ({ data := #[27, 91] } : ByteArray) = [27, 91] by kernel_rfl, List.append_assoc]
  rw [← e]; exact h2
set_option maxRecDepth 100000 in
theorem place_wr (wb tb : Nat) (x : WS) (r c : Nat) (hr : r < 99) (hc : c < 99) (w : World) (h : WrAt w wb tb x) (hx : x.tx.length ≤ 800000000) :
    Calls Tryz.prog 208 #[.pointer (some ⟨wb, 0, none⟩), .int .i64 (r : Int), .int .i64 (c : Int)] w fun e w' => e = .returned (.tuple #[]) ∧ WrAt w' wb tb (x.place r c) ∧ Wk wb w w' := by
  have l1 := pair_any r c hr hc w
  have zp := pairS_size (r : Int) (c : Int)
  have l2 := sequence_wr wb tb x (pairS (r : Int) (c : Int) ++ { data := #[72] }) w h hx (by rw [ByteArray.size_append]; show (pairS (r : Int) (c : Int)).size + 1 ≤ _; omega)
  have e : x.seq (bl (pairS (r : Int) (c : Int) ++ { data := #[72] })) = x.place r c := by
    unfold WS.place
    rw [bl_append, pairS_bl (by omega) (by omega), show bl ({ data := #[72] } : ByteArray) = [72] by kernel_rfl]
  rw [e] at l2
  clear e h
  generalize pairS (r : Int) (c : Int) = D at *
  go_enter Tryz.func208, Tryz.ntmps208
  go_wp2_with fail
  refine l1.mono ?_
  rintro e w1 ⟨rfl, hw1⟩
  have hw2 := hw1.symm
  subst hw2
  go_wp2_with fail
  refine l2.mono ?_
  rintro e w2 ⟨rfl, h2, b2⟩
  go_wp2_with fail
  go_end0
  exact ⟨rfl, h2, b2⟩
end Go.Proofs.YtheibfffilomcaaGreatDoor

/- The walks of AppendRune, WriteRune. -/
namespace Go.Proofs.YtheibfffilomcaaGreatDoor
open Go.RowKit

/-- Bytes that were just made are appended to those of the call's own. -/
theorem wp_appB {ops : Array Oper} {rest : List Oper} {o : Oper} {a : Act} {Q : Exit → Act → World → Prop} (u : World) (hgd : o.guard = none) (s x : Operand)
    (ho : o.op = .call { callee := .builtin .append, args := #[s, x], argTypes := #[129, 129] }) (base : Nat) (v : Value) (L ys : List Int) (hs : a.eval s = v) (own : BsAt u base v L)
    (n : Nat) (hn : ys.length = n) (g : Nat) (hg : g = u.heap.size) (hx : a.eval x = .slice (some ⟨g, 0, none⟩) n n) (cs : Array Value) (hcs : cs = (ys.map (Value.int .u8)).toArray) (hL : L.length ≤ 1000000000) (hy : ys.length ≤ 4) (hy0 : 1 ≤ ys.length) (hb : base ≤ u.heap.size)
    (h : ∀ v' w', BsAt w' base v' (L ++ ys) → Gr v u w' → wpList Tryz.prog ops Q rest (a.put o.dst v') w') : wpList Tryz.prog ops Q (o :: rest) a (u.alloc (.cells cs 5)) := by
  obtain ⟨i0, hi, hz0, hz1, hz2⟩ := info_parts info5b
  subst hg hcs
  refine wpList_append_own _ hgd s x 129 ho base 5 i0 (.int .u8 0) 1 1 (by kernel_rfl) hi hz0 hz1 hz2 rfl (by decide) v _ _ hs (World.ownsRow.alloc own _) ⟨u.heap.size, 0, none⟩ n n (ys.map (Value.int .u8)) hx (by simp [hn]) ?_ ?_ ?_ ?_ ?_ ?_
  · intro j z hj
    have hadd : (⟨u.heap.size, 0, none⟩ : Addr).add j = ⟨u.heap.size, 0 + j, none⟩ := by unfold Addr.add; split <;> simp_all
    rw [hadd, cell_of_row _ _ _ _ _ _ (heap_alloc_new u _), Nat.zero_add]
    simpa using hj
  · intro z hz
    obtain ⟨y, _, rfl⟩ := List.mem_map.1 hz
    rfl
  · unfold maxLen; omega
  · omega
  · simp; omega
  · intro v' w' hown hgrow _
    refine h v' w' ?_ ?_
    · unfold BsAt
      rw [List.map_append, List.length_append, hn]; exact hown
    · have hz : u.heap.size ≤ w'.heap.size := by have := hgrow.size; simp at this; omega
      exact ⟨hgrow.os, hgrow.tape, hgrow.output, hz, fun k hk hn => (hgrow.block k (by simp; omega) (fun e => hn e.symm)).trans (Below.heap_alloc _ _ _ hk)⟩

set_option maxRecDepth 100000 in
theorem appR_2 (base : Nat) (v : Value) (L : List Int) (c : Int) (h0 : 128 ≤ c) (h1 : c < 2048) (w : World) (own : BsAt w base v L) (hL : L.length ≤ 1000000000) (hb : base ≤ w.heap.size) :
    Calls Tryz.prog 252 #[v, .int .i32 c] w fun e w' => ∃ v', e = .returned v' ∧ BsAt w' base v' (L ++ [192 + c / 64, 128 + c % 64]) ∧ Gr v w w' := by
  have HO : Hid _ := own
  clear own
  go_enter Tryz.func252, Tryz.ntmps252
  go_wp2_with (at_builtin; refine wp_appB w rfl (.tmp 14) (.tmp 23) rfl base v L [192 + c / 64, 128 + c % 64] rfl HO.out 2 rfl w.heap.size rfl rfl _ rfl hL (show 2 ≤ 4 by decide) (show 1 ≤ 2 by decide) hb ?_)
  intro v2 w2 own2 b2
  have H2 : Hid _ := own2
  have HB : Hid _ := b2
  clear own2 b2
  go_wp2_with fail
  go_ret
  exact ⟨v2, rfl, H2.out, HB.out⟩
set_option maxRecDepth 100000 in
theorem appR_3a (base : Nat) (v : Value) (L : List Int) (c : Int) (h0 : 2048 ≤ c) (h1 : c < 55296) (w : World) (own : BsAt w base v L) (hL : L.length ≤ 1000000000) (hb : base ≤ w.heap.size) :
    Calls Tryz.prog 252 #[v, .int .i32 c] w fun e w' => ∃ v', e = .returned v' ∧ BsAt w' base v' (L ++ [224 + c / 4096, 128 + c / 64 % 64, 128 + c % 64]) ∧ Gr v w w' := by
  have HO : Hid _ := own
  clear own
  go_enter Tryz.func252, Tryz.ntmps252
  go_wp2_with (at_builtin; refine wp_appB w rfl (.tmp 34) (.tmp 48) rfl base v L [224 + c / 4096, 128 + c / 64 % 64, 128 + c % 64] rfl HO.out 3 rfl w.heap.size rfl rfl _ rfl hL (show 3 ≤ 4 by decide) (show 1 ≤ 3 by decide) hb ?_)
  intro v2 w2 own2 b2
  have H2 : Hid _ := own2
  have HB : Hid _ := b2
  clear own2 b2
  go_wp2_with fail
  go_ret
  exact ⟨v2, rfl, H2.out, HB.out⟩
set_option maxRecDepth 100000 in
theorem appR_3b (base : Nat) (v : Value) (L : List Int) (c : Int) (h0 : 57344 ≤ c) (h1 : c < 65536) (w : World) (own : BsAt w base v L) (hL : L.length ≤ 1000000000) (hb : base ≤ w.heap.size) :
    Calls Tryz.prog 252 #[v, .int .i32 c] w fun e w' => ∃ v', e = .returned v' ∧ BsAt w' base v' (L ++ [224 + c / 4096, 128 + c / 64 % 64, 128 + c % 64]) ∧ Gr v w w' := by
  have HO : Hid _ := own
  clear own
  go_enter Tryz.func252, Tryz.ntmps252
  go_wp2_with (at_builtin; refine wp_appB w rfl (.tmp 34) (.tmp 48) rfl base v L [224 + c / 4096, 128 + c / 64 % 64, 128 + c % 64] rfl HO.out 3 rfl w.heap.size rfl rfl _ rfl hL (show 3 ≤ 4 by decide) (show 1 ≤ 3 by decide) hb ?_)
  intro v2 w2 own2 b2
  have H2 : Hid _ := own2
  have HB : Hid _ := b2
  clear own2 b2
  go_wp2_with fail
  go_ret
  exact ⟨v2, rfl, H2.out, HB.out⟩
set_option maxRecDepth 100000 in
theorem appR_4 (base : Nat) (v : Value) (L : List Int) (c : Int) (h0 : 65536 ≤ c) (h1 : c ≤ 1114111) (w : World) (own : BsAt w base v L) (hL : L.length ≤ 1000000000) (hb : base ≤ w.heap.size) :
    Calls Tryz.prog 252 #[v, .int .i32 c] w fun e w' => ∃ v', e = .returned v' ∧ BsAt w' base v' (L ++ [240 + c / 262144, 128 + c / 4096 % 64, 128 + c / 64 % 64, 128 + c % 64]) ∧ Gr v w w' := by
  have HO : Hid _ := own
  clear own
  go_enter Tryz.func252, Tryz.ntmps252
  go_wp2_with (at_builtin; refine wp_appB w rfl (.tmp 57) (.tmp 76) rfl base v L [240 + c / 262144, 128 + c / 4096 % 64, 128 + c / 64 % 64, 128 + c % 64] rfl HO.out 4 rfl w.heap.size rfl rfl _ rfl hL (show 4 ≤ 4 by decide) (show 1 ≤ 4 by decide) hb ?_)
  intro v2 w2 own2 b2
  have H2 : Hid _ := own2
  have HB : Hid _ := b2
  clear own2 b2
  go_wp2_with fail
  go_ret
  exact ⟨v2, rfl, H2.out, HB.out⟩

theorem appN_any (base : Nat) (v : Value) (L : List Int) (c : Int) (h0 : 128 ≤ c) (hc : ScN c) (w : World) (own : BsAt w base v L) (hL : L.length ≤ 1000000000) (hb : base ≤ w.heap.size) :
    Calls Tryz.prog 252 #[v, .int .i32 c] w fun e w' => ∃ v', e = .returned v' ∧ BsAt w' base v' (L ++ utfN c) ∧ Gr v w w' := by
  obtain ⟨_, h1, h2⟩ := hc
  unfold utfN
  rw [if_neg (by omega)]
  by_cases a2 : c < 2048
  · rw [if_pos a2]; exact appR_2 base v L c h0 a2 w own hL hb
  · rw [if_neg a2]
    by_cases a3 : c < 65536
    · rw [if_pos a3]
      by_cases a4 : c < 55296
      · exact appR_3a base v L c (by omega) a4 w own hL hb
      · exact appR_3b base v L c (by omega) a3 w own hL hb
    · rw [if_neg a3]; exact appR_4 base v L c (by omega) h1 w own hL hb
set_option maxRecDepth 100000 in
theorem appR_any (base : Nat) (v : Value) (L : List Int) (c : Int) (hc : ScN c) (w : World) (own : BsAt w base v L) (hL : L.length ≤ 1000000000) (hb : base ≤ w.heap.size) :
    Calls Tryz.prog 246 #[v, .int .i32 c] w fun e w' => ∃ v', e = .returned v' ∧ BsAt w' base v' (L ++ utfN c) ∧ Gr v w w' := by
  have hc' := hc
  obtain ⟨h0, h1, h2⟩ := hc
  by_cases a1 : c < 128
  · have e : utfN c = [c] := by unfold utfN; rw [if_pos a1]
    rw [e]
    have HO : Hid _ := own
    clear own e hc' h2
    have i1 : c ≤ 127 := by omega
    go_enter Tryz.func246, Tryz.ntmps246
    go_wp2_with (at_builtin; refine wp_appB w rfl (.tmp 8) (.tmp 11) rfl base v L [c] rfl HO.out 1 rfl w.heap.size rfl rfl _ rfl hL (show 1 ≤ 4 by decide) (show 1 ≤ 1 by decide) hb ?_)
    intro v2 w2 own2 b2
    have H2 : Hid _ := own2
    have HB : Hid _ := b2
    clear own2 b2
    go_wp2_with fail
    go_ret
    exact ⟨v2, rfl, H2.out, HB.out⟩
  · have l1 := appN_any base v L c (by omega) hc' w own hL hb
    have i1 : ¬ c ≤ 127 := by omega
    clear own hc' h2
    generalize utfN c = D at *
    go_enter Tryz.func246, Tryz.ntmps246
    go_wp2_with (go_at_call 252; refine l1.mono ?_; rintro e w1 ⟨v', rfl, o1, b1⟩)
    go_ret
    exact ⟨v', rfl, o1, b1⟩

set_option maxRecDepth 100000 in
theorem writeRune_any (wb tb : Nat) (x : WS) (c : Int) (hc : ScN c) (w : World) (h : WrAt w wb tb x) (hx : x.tx.length ≤ 900000000) :
    Calls Tryz.prog 241 #[.pointer (some ⟨wb, 1, none⟩), .int .i32 c] w fun e w' => (∃ v, e = .returned v) ∧ WrAt w' wb tb (x.put (utfN c)) ∧ Wk wb w w' := by
  obtain ⟨p, v, h1, h2, h3⟩ := h.ex
  have H8 : Hid (∀ i ∈ x.tx, 0 ≤ i ∧ i < 256) := h.by8
  have H9 : Hid (∀ i ∈ utfN c, 0 ≤ i ∧ i < 256) := utfN_byte c hc.1 (by have := hc.2.1; omega)
  have l1 := copyCheck_any wb tb p v x.pen w h1 h2
  have hlt := blk_lt h1
  obtain ⟨ao, nn, cc, rfl⟩ : ∃ ao nn cc, v = .slice ao nn cc := by rcases h3.2 with ⟨rfl, _⟩ | ⟨g, cap, cur, rfl, _⟩ <;> exact ⟨_, _, _, rfl⟩
  have hnn : nn ≤ 900000000 := by
    rcases h3.2 with ⟨e, _⟩ | ⟨g, cap, cur, e, _⟩
    · injection e with _ e2 _; omega
    · injection e with _ e2 _; omega
  have HB : Hid (BsAt w (wb + 1) (.slice ao nn cc) x.tx) := h3
  clear h h1 h2 h3
  go_enter Tryz.func241, Tryz.ntmps241
  go_wp2_with fail
  refine l1.mono ?_
  rintro e w1 ⟨rfl, g1, k1⟩
  have c2 : w1.cell? ⟨wb, 2, none⟩ = some (.slice ao nn cc) := (cell_of_row _ _ _ _ _ _ g1).trans rfl
  have B1 : BsAt w1 (wb + 1) (.slice ao nn cc) x.tx := HB.out.keep (fun k hk hks => k1.block k hks (by omega))
  have hsz := k1.size
  have l2 := appR_any (wb + 1) (.slice ao nn cc) x.tx c hc w1 B1 (by omega) (by omega)
  have HG : Hid _ := g1
  clear g1 l1
  go_wp2_with fail
  refine l2.mono ?_
  rintro e w2 ⟨v2, rfl, own2, b2⟩
  obtain ⟨ao2, nn2, cc2, rfl⟩ : ∃ ao nn cc, v2 = .slice ao nn cc := by rcases own2.2 with ⟨rfl, _⟩ | ⟨g, cap, cur, rfl, _⟩ <;> exact ⟨_, _, _, rfl⟩
  have g2 : w2.heap[wb]? = some (.cells (wrV tb (selfP wb) (.slice ao nn cc) x.pen).toArray 133 (0, 0)) := (b2.block wb (by omega) (fun e => by have := B1.ne e; omega)).trans HG.out
  have f2 : w2.frozen? ⟨wb, 2, none⟩ = false := frozen_of_row _ _ _ _ _ g2
  have c22 : w2.cell? ⟨wb, 2, none⟩ = some (.slice ao nn cc) := (cell_of_row _ _ _ _ _ _ g2).trans rfl
  have hg3 : (w2.setCell ⟨wb, 2, none⟩ (.slice ao2 nn2 cc2)).heap[wb]? = _ := heap_setCell_same w2 wb 2 _ _ _ g2
  have c23 : (w2.setCell ⟨wb, 2, none⟩ (.slice ao2 nn2 cc2)).cell? ⟨wb, 2, none⟩ = some (.slice ao2 nn2 cc2) := (cell_of_row _ _ _ _ _ _ hg3).trans rfl
  have HG3 : Hid _ := hg3
  have HO2 : Hid _ := own2
  have HB2 : Hid _ := b2
  clear g2 own2 b2 c2 hg3 l2
  go_wp2_with fail
  go_ret2
  have hso : ∀ k, k ≠ wb → (w2.setCell ⟨wb, 2, none⟩ (.slice ao2 nn2 cc2)).heap[k]? = w2.heap[k]? := fun k hk => Below.heap_setCell _ _ _ _ (fun e => hk e)
  refine ⟨⟨_, rfl⟩, WrAt.of (p := selfP wb) (v := .slice ao2 nn2 cc2) (HG3.out.trans rfl) (.inr rfl) ?_ (by8_put H8.out H9.out), ?_⟩
  · exact BsAt.keep (w := w2) HO2.out (fun k hk _ => hso k (by omega))
  · have b1 : Below wb w w1 := k1.below (by omega) (fun k hk e => by omega)
    have b2 : Below wb w1 w2 := ⟨HB2.out.os, HB2.out.tape, HB2.out.output, HB2.out.size, fun k hk => HB2.out.block k (by omega) (fun e => by have := B1.ne e; omega)⟩
    refine ⟨(b1.trans b2).trans ⟨rfl, rfl, rfl, by simp, fun k hk => hso k (by omega)⟩, fun k hk hn hb => ?_⟩
    refine (hso k hn).trans ((HB2.out.block k (by omega) (fun e => ?_)).trans (k1.block k hk hn))
    obtain ⟨cur, hc⟩ := B1.nb e
    exact hb cur (0, 0) ((k1.block k hk hn).symm.trans hc)
end Go.Proofs.YtheibfffilomcaaGreatDoor

/- The walk of Builder.String. -/
namespace Go.Proofs.YtheibfffilomcaaGreatDoor
open Go.RowKit

theorem bytes_of {t : List Int} (h : ∀ i ∈ t, 0 ≤ i ∧ i < 256) : ∃ l : List UInt8, t = l.map (fun c => (c.toNat : Int)) := by
  induction t with
  | nil => exact ⟨[], rfl⟩
  | cons a t ih =>
    obtain ⟨l, rfl⟩ := ih (fun i hi => h i (List.mem_cons_of_mem _ hi))
    have ha := h a (List.mem_cons_self ..)
    refine ⟨UInt8.ofNat a.toNat :: l, ?_⟩
    rw [List.map_cons]
    congr 1
    rw [UInt8.toNat_ofNat_of_lt' (by show a.toNat < 256; omega)]
    omega

def StrPost (wb : Nat) (t : List Int) (w : World) (e : Ending) (w' : World) : Prop := (∃ U : ByteArray, e = .returned (.string U) ∧ bl U = t) ∧ Below wb w w'

set_option maxHeartbeats 1000000 in
set_option maxRecDepth 100000 in
theorem string_nil (wb tb : Nat) (p : Value) (q : PenS) (w : World) (h : w.heap[wb]? = some (.cells (wrV tb p (.slice none 0 0) q).toArray 133 (0, 0))) :
    Calls Tryz.prog 74 #[.pointer (some ⟨wb, 1, none⟩)] w (StrPost wb [] w) := by
  have hUS : ∀ (W : World) (q : Option Addr), (Builtin.unsafeString_ #[193, 3] 9 #[.pointer q, .int .i64 0]).run Tryz.prog W = .ok (.string .empty) W := fun W q => Lib.run_unsafeString_none W _ _ _ q
  have c1 : w.drew.cell? ⟨wb, 2, none⟩ = some (.slice none 0 0) := (cell_of_row w.drew _ _ _ _ _ h).trans rfl
  have hSD : (Builtin.unsafeSliceData_ #[129] 193 #[.slice none 0 0]).run Tryz.prog w.drew = .ok (.pointer none) w.drew := rfl
  clear h
  go_enter Tryz.func74, Tryz.ntmps74
  go_wp2
  go_region
  all_goals (go_wp2; go_ret; exact ⟨⟨_, rfl, rfl⟩, Below.drew (Below.refl wb w)⟩)

set_option maxHeartbeats 1000000 in
set_option maxRecDepth 100000 in
theorem string_noroom (wb tb g : Nat) (p : Value) (q : PenS) (cur : Array Value) (w : World) (hg : w.heap[g]? = some (.cells cur 5 (0, 0))) (h : w.heap[wb]? = some (.cells (wrV tb p (.slice (some ⟨g, 0, none⟩) 0 0) q).toArray 133 (0, 0))) :
    Calls Tryz.prog 74 #[.pointer (some ⟨wb, 1, none⟩)] w (StrPost wb [] w) := by
  have hUS : ∀ (W : World) (q : Option Addr), (Builtin.unsafeString_ #[193, 3] 9 #[.pointer q, .int .i64 0]).run Tryz.prog W = .ok (.string .empty) W := fun W q => Lib.run_unsafeString_none W _ _ _ q
  have hlt := blk_lt h
  have hBw : wb ≤ w.heap.size := Nat.le_of_lt hlt
  have c1 : w.drew.cell? ⟨wb, 2, none⟩ = some (.slice (some ⟨g, 0, none⟩) 0 0) := (cell_of_row w.drew _ _ _ _ _ h).trans rfl
  have hSD : (Builtin.unsafeSliceData_ #[129] 193 #[.slice (some ⟨g, 0, none⟩) 0 0]).run Tryz.prog w.drew = .ok (.pointer (some ⟨w.drew.heap.size, 0, none⟩)) (w.drew.alloc (.view ⟨g, 0, none⟩ 5)) :=
    Lib.run_unsafeSliceData_zero w.drew _ _ 5 (by kernel_rfl) ⟨g, 0, none⟩ 0 (5, cur.size) (by have hg' : w.drew.heap[g]? = some (.cells cur 5 (0, 0)) := hg; simp [World.shape?, hg'])
  have c2 : (w.drew.alloc (.view ⟨g, 0, none⟩ 5)).cell? ⟨wb, 2, none⟩ = some (.slice (some ⟨g, 0, none⟩) 0 0) := by
    have e : (w.drew.alloc (.view ⟨g, 0, none⟩ 5)).heap[wb]? = _ := (Lib.alloc_old w.drew _ wb hlt).trans h
    exact (cell_of_row _ _ _ _ _ _ e).trans rfl
  have c3 : (w.alloc (.view ⟨g, 0, none⟩ 5)).drew.cell? ⟨wb, 2, none⟩ = some (.slice (some ⟨g, 0, none⟩) 0 0) := c2
  have c0 : w.cell? ⟨wb, 2, none⟩ = some (.slice (some ⟨g, 0, none⟩) 0 0) := c1
  clear h hg hlt
  go_enter Tryz.func74, Tryz.ntmps74
  go_wp2
  go_region
  all_goals (go_wp2; go_ret; exact ⟨⟨_, rfl, rfl⟩, (Below.drew (Below.refl wb w)).alloc hBw _⟩)

set_option maxHeartbeats 1000000 in
set_option maxRecDepth 100000 in
theorem string_room (wb tb g cap : Nat) (p : Value) (q : PenS) (w : World) (hc0 : cap ≠ 0) (h : w.heap[wb]? = some (.cells (wrV tb p (.slice (some ⟨g, 0, none⟩) 0 cap) q).toArray 133 (0, 0))) :
    Calls Tryz.prog 74 #[.pointer (some ⟨wb, 1, none⟩)] w (StrPost wb [] w) := by
  have hUS : ∀ (W : World) (q : Option Addr), (Builtin.unsafeString_ #[193, 3] 9 #[.pointer q, .int .i64 0]).run Tryz.prog W = .ok (.string .empty) W := fun W q => Lib.run_unsafeString_none W _ _ _ q
  have c1 : w.drew.cell? ⟨wb, 2, none⟩ = some (.slice (some ⟨g, 0, none⟩) 0 cap) := (cell_of_row w.drew _ _ _ _ _ h).trans rfl
  have hSD : (Builtin.unsafeSliceData_ #[129] 193 #[.slice (some ⟨g, 0, none⟩) 0 cap]).run Tryz.prog w.drew = .ok (.pointer (some ⟨g, 0, none⟩)) w.drew :=
    Lib.run_unsafeSliceData_row _ _ _ _ _ _ hc0
  clear h hc0
  go_enter Tryz.func74, Tryz.ntmps74
  go_wp2
  go_region
  all_goals (go_wp2; go_ret; exact ⟨⟨_, rfl, rfl⟩, Below.drew (Below.refl wb w)⟩)

set_option maxHeartbeats 1000000 in
set_option maxRecDepth 100000 in
theorem string_row (wb tb g cap : Nat) (p : Value) (q : PenS) (cur : Array Value) (l : List UInt8) (h0 : l ≠ []) (w : World) (hbg : wb + 1 ≤ g) (hg : w.heap[g]? = some (.cells cur 5 (0, 0))) (hnc : l.length ≤ cap) (hcm : cap ≤ maxLen) (hcs : cur.size = cap * 1)
    (hcell : ∀ j (x : UInt8), l[j]? = some x → w.cell? ((⟨g, 0, none⟩ : Addr).add j) = some (.int .u8 x.toNat)) (h : w.heap[wb]? = some (.cells (wrV tb p (.slice (some ⟨g, 0, none⟩) l.length cap) q).toArray 133 (0, 0))) :
    Calls Tryz.prog 74 #[.pointer (some ⟨wb, 1, none⟩)] w (StrPost wb (l.map (fun c => (c.toNat : Int))) w) := by
  have hl0 : l.length ≠ 0 := by simpa using h0
  have c1 : w.drew.cell? ⟨wb, 2, none⟩ = some (.slice (some ⟨g, 0, none⟩) l.length cap) := (cell_of_row w.drew _ _ _ _ _ h).trans rfl
  have hSD : (Builtin.unsafeSliceData_ #[129] 193 #[.slice (some ⟨g, 0, none⟩) l.length cap]).run Tryz.prog w.drew = .ok (.pointer (some ⟨g, 0, none⟩)) w.drew :=
    Lib.run_unsafeSliceData_row _ _ _ _ _ _ (by omega)
  have hUS : (Builtin.unsafeString_ #[193, 3] 9 #[.pointer (some ⟨g, 0, none⟩), .int .i64 l.length]).run Tryz.prog w.drew = .ok (.string ⟨l.toArray⟩) (w.drew.freeze ⟨g, 0, none⟩ l.length) :=
    Lib.run_unsafeString_row w.drew 193 3 9 5 (by kernel_rfl) (by kernel_rfl) g cur.size (by have hg' : w.drew.heap[g]? = some (.cells cur 5 (0, 0)) := hg; simp [World.shape?, hg']) l h0 (by omega) (by unfold maxLen at hcm; omega) hcell
  have hbg' : wb ≤ g := by omega
  have HL : Hid (bl ⟨l.toArray⟩ = l.map (fun c => (c.toNat : Int))) := by show _ = _; unfold bl; simp
  clear h hg hcell hnc hcm hcs h0 hl0 hbg
  go_enter Tryz.func74, Tryz.ntmps74
  go_wp2
  go_region
  all_goals (go_wp2; go_ret; exact ⟨⟨_, rfl, HL.out⟩, Lib.below_freeze (Below.drew (Below.refl wb w)) (p := ⟨g, 0, none⟩) hbg' _⟩)

theorem string_any (wb tb : Nat) (x : WS) (w : World) (h : WrAt w wb tb x) : Calls Tryz.prog 74 #[.pointer (some ⟨wb, 1, none⟩)] w (StrPost wb x.tx w) := by
  obtain ⟨p, v, h1, _, h3⟩ := h.ex
  obtain ⟨l, hl⟩ := bytes_of h.by8
  have h3' := h3
  rcases h3.2 with ⟨rfl, e⟩ | ⟨g, cap, cur, rfl, hbg, hg, hnc, hcm, hcs, _⟩
  · have : x.tx = [] := List.eq_nil_of_length_eq_zero e
    rw [this]
    exact string_nil wb tb p x.pen w h1
  · by_cases h0 : l = []
    · have hx : x.tx = [] := by rw [hl, h0]; rfl
      rw [hx] at h1 ⊢
      by_cases hc0 : cap = 0
      · subst hc0
        exact string_noroom wb tb g p x.pen cur w hg h1
      · exact string_room wb tb g cap p x.pen w hc0 h1
    · have hlen : x.tx.length = l.length := by rw [hl]; simp
      rw [hlen] at h1 hnc
      rw [hl]
      refine string_row wb tb g cap p x.pen cur l h0 w hbg hg hnc hcm hcs ?_ h1
      intro j y hy
      have h4 : BsAt w (wb + 1) (.slice (some ⟨g, 0, none⟩) x.tx.length cap) x.tx := h3'
      exact World.ownsRow.cells (g := g) h4 (by rfl) j (.int .u8 y.toNat) (by rw [hl]; simp [hy])
end Go.Proofs.YtheibfffilomcaaGreatDoor

