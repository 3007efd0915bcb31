/- The walks that put lists of numbers into the book. -/
import Derived.Test.YtheibfffilomcaaGreatDoorBoo2
namespace Go.Proofs.YtheibfffilomcaaGreatDoor
open Go.RowKit

theorem own_one {w : World} {base : Nat} {e : TypeId} {size : Nat} {v : Value} {n : Nat} {xs : List Value} (h : w.ownsRow base e size v n xs) : v.oneCell' = true := by
  rcases h.2 with ⟨rfl, _⟩ | ⟨g, cap, cur, rfl, _⟩ <;> rfl

/-- All old blocks but those of S are kept. -/
structure Fr (S : Nat → Prop) (w w' : World) : Prop where
  os : w'.os = w.os
  tape : w'.tape = w.tape
  output : w'.output = w.output
  size : w.heap.size ≤ w'.heap.size
  block : ∀ g, g < w.heap.size → ¬ S g → w'.heap[g]? = w.heap[g]?
theorem Fr.trans {S : Nat → Prop} {a b c : World} (h : Fr S a b) (k : Fr S b c) : Fr S a c :=
  ⟨k.os.trans h.os, k.tape.trans h.tape, k.output.trans h.output, Nat.le_trans h.size k.size, fun g hg hs => (k.block g (Nat.lt_of_lt_of_le hg h.size) hs).trans (h.block g hg hs)⟩
theorem Fr.grown {S : Nat → Prop} {w w' : World} {row : Option Nat} (h : w.grownBy w' row) (hs : ∀ g, some g = row → S g) : Fr S w w' :=
  ⟨h.os, h.tape, h.output, h.size, fun g hg hn => h.block g hg (fun e => hn (hs g e))⟩
theorem Fr.set {S : Nat → Prop} {w : World} {b o : Nat} {x : Value} (hs : S b) : Fr S w (w.setCell ⟨b, o, none⟩ x) :=
  ⟨rfl, rfl, rfl, by simp [World.setCell], fun g _ hn => Below.heap_setCell _ _ _ _ (fun e => hn (e ▸ hs))⟩
theorem Fr.below {S : Nat → Prop} {w w' : World} (h : Fr S w w') {B : Nat} (hB : B ≤ w.heap.size) (hs : ∀ g, g < B → ¬ S g) : Below B w w' :=
  ⟨h.os, h.tape, h.output, h.size, fun k hk => h.block k (by omega) (hs k hk)⟩

theorem frozen_set (w : World) (a b : Addr) (x : Value) : (w.setCell a x).frozen? b = w.frozen? b := by simp

/-- The book with another mark to come. -/
theorem BkRaw.set6 {w : World} {bb : Nat} {vi vm : Value} {I : List Value} {M : List Int} {E : List (Value × Int)} {nx : Int} (h : BkRaw w bb vi vm I M E nx) (m : Int) : BkRaw (w.setCell ⟨bb, 6, none⟩ (.int .i64 m)) bb vi vm I M E m := by
  have o : ∀ j x, j ≠ 6 → w.cell? ⟨bb, j, none⟩ = some x → (w.setCell ⟨bb, 6, none⟩ (.int .i64 m)).cell? ⟨bb, j, none⟩ = some x := fun j x hj hx => (cell_set_other w bb 6 j _ (by omega)).trans hx
  refine ⟨o 0 _ (by omega) h.c0, o 1 _ (by omega) h.c1, o 2 _ (by omega) h.c2, o 3 _ (by omega) h.c3, o 4 _ (by omega) h.c4, o 5 _ (by omega) h.c5, World.cell?_setCell_same _ _ _ h.c6,
    fun j hj => (frozen_set _ _ _ _).trans (h.f j hj), ownsRow_setCell_below h.oi (by simp) _, ownsRow_setCell_below h.om (by simp) _, fun x hx => ?_⟩
  obtain ⟨a, p, hp, hl⟩ := h.ent x hx
  exact ⟨a, p, hp, ownsRow_setCell_below hl (by simp) _⟩
/-- The book behind an append to its lists. -/
theorem BkRaw.appI {w w5 : World} {bb : Nat} {vi vm : Value} {I : List Value} {M : List Int} {E : List (Value × Int)} {nx : Int} (h : BkRaw w bb vi vm I M E nx) (vi' : Value) (I' : List Value) (hg : w.grownBy w5 vi.ownBlock) (hI : w5.ownsRow (bb + 1) 53 1 vi' I'.length I') :
    (∀ j, w5.cell? ⟨bb, j, none⟩ = w.cell? ⟨bb, j, none⟩) ∧ (∀ j, w5.frozen? ⟨bb, j, none⟩ = w.frozen? ⟨bb, j, none⟩) ∧ BkRaw (w5.setCell ⟨bb, 0, none⟩ vi') bb vi' vm I' M E nx := by
  have hlt : bb < w.heap.size := World.block_lt_of_cell? _ _ h.c0
  have hbk := hg.block bb hlt (fun e => by have := (h.oi.lt bb e.symm).1; omega)
  have hc : ∀ j, w5.cell? ⟨bb, j, none⟩ = w.cell? ⟨bb, j, none⟩ := fun j => World.cell?_of_block hbk
  have hf : ∀ j, w5.frozen? ⟨bb, j, none⟩ = w.frozen? ⟨bb, j, none⟩ := fun j => World.frozen?_of_block hbk
  have o : ∀ j x, j ≠ 0 → w.cell? ⟨bb, j, none⟩ = some x → (w5.setCell ⟨bb, 0, none⟩ vi').cell? ⟨bb, j, none⟩ = some x := fun j x hj hx => (cell_set_other w5 bb 0 j _ (by omega)).trans ((hc j).trans hx)
  refine ⟨hc, hf, World.cell?_setCell_same _ _ _ ((hc 0).trans h.c0), o 1 _ (by omega) h.c1, o 2 _ (by omega) h.c2, o 3 _ (by omega) h.c3, o 4 _ (by omega) h.c4, o 5 _ (by omega) h.c5, o 6 _ (by omega) h.c6,
    fun j hj => (frozen_set _ _ _ _).trans ((hf j).trans (h.f j hj)), ownsRow_setCell_below hI (by simp) _, ownsRow_setCell_below (World.ownsRow.kept h.om hg (apart_types h.om h.oi (by decide))) (by simp) _, fun x hx => ?_⟩
  obtain ⟨a, p, hp, hl⟩ := h.ent x hx
  exact ⟨a, p, hp, ownsRow_setCell_below (World.ownsRow.kept hl hg (apart_types hl h.oi (by decide))) (by simp) _⟩
/-- The book behind an append to its marks. -/
theorem BkRaw.appM {w w5 : World} {bb : Nat} {vi vm : Value} {I : List Value} {M : List Int} {E : List (Value × Int)} {nx : Int} (h : BkRaw w bb vi vm I M E nx) (vm' : Value) (M' : List Int) (hg : w.grownBy w5 vm.ownBlock) (hM : LsAt w5 (bb + 1) vm' M')
    (ha : vm'.ownBlock = vm.ownBlock ∨ ∃ k, vm'.ownBlock = some k ∧ w.heap.size ≤ k) :
    (∀ j, w5.cell? ⟨bb, j, none⟩ = w.cell? ⟨bb, j, none⟩) ∧ (∀ j, w5.frozen? ⟨bb, j, none⟩ = w.frozen? ⟨bb, j, none⟩) ∧ BkRaw (w5.setCell ⟨bb, 1, none⟩ vm') bb vi vm' I M' E nx := by
  have hlt : bb < w.heap.size := World.block_lt_of_cell? _ _ h.c0
  have hbk := hg.block bb hlt (fun e => by have := (World.ownsRow.lt h.om bb e.symm).1; omega)
  have hc : ∀ j, w5.cell? ⟨bb, j, none⟩ = w.cell? ⟨bb, j, none⟩ := fun j => World.cell?_of_block hbk
  have hf : ∀ j, w5.frozen? ⟨bb, j, none⟩ = w.frozen? ⟨bb, j, none⟩ := fun j => World.frozen?_of_block hbk
  have o : ∀ j x, j ≠ 1 → w.cell? ⟨bb, j, none⟩ = some x → (w5.setCell ⟨bb, 1, none⟩ vm').cell? ⟨bb, j, none⟩ = some x := fun j x hj hx => (cell_set_other w5 bb 1 j _ (by omega)).trans ((hc j).trans hx)
  refine ⟨hc, hf, o 0 _ (by omega) h.c0, World.cell?_setCell_same _ _ _ ((hc 1).trans h.c1), o 2 _ (by omega) h.c2, o 3 _ (by omega) h.c3, o 4 _ (by omega) h.c4, o 5 _ (by omega) h.c5, o 6 _ (by omega) h.c6,
    fun j hj => (frozen_set _ _ _ _).trans ((hf j).trans (h.f j hj)), ownsRow_setCell_below (World.ownsRow.kept h.oi hg (apart_types h.oi h.om (by decide))) (by simp) _, ownsRow_setCell_below hM (by simp) _, fun x hx => ?_⟩
  obtain ⟨a, p, hp, hl⟩ := h.ent x hx
  exact ⟨(Apart.later ha a.symm (row_lt hl)).symm, p, hp, ownsRow_setCell_below (World.ownsRow.kept hl hg a) (by simp) _⟩
/-- The book with more lists told of. -/
theorem BkRaw.more {w : World} {bb : Nat} {vi vm : Value} {I : List Value} {M : List Int} {E : List (Value × Int)} {nx : Int} (h : BkRaw w bb vi vm I M E nx) (E' : List (Value × Int))
    (he : ∀ x ∈ E', Apart x.1 vm ∧ ∃ p, p ≤ 1000000000 ∧ LsAt w (bb + 1) x.1 (List.replicate p x.2)) : BkRaw w bb vi vm I M (E ++ E') nx :=
  ⟨h.c0, h.c1, h.c2, h.c3, h.c4, h.c5, h.c6, h.f, h.oi, h.om, fun x hx => (List.mem_append.1 hx).elim (h.ent x) (he x)⟩

set_option maxHeartbeats 400000 in
theorem mark_any (bb : Nat) (nx : Int) (w : World) (c6 : w.cell? ⟨bb, 6, none⟩ = some (.int .i64 nx)) (f6 : w.frozen? ⟨bb, 6, none⟩ = false) (h0 : -2000000000 ≤ nx) (h1 : nx ≤ 0) :
    Calls Tryz.prog 159 #[.pointer (some ⟨bb, 0, none⟩)] w fun e w' => e = .returned (.int .i64 (nx - 1)) ∧ w' = w.setCell ⟨bb, 6, none⟩ (.int .i64 (nx - 1)) := by
  go_enter Tryz.func159, Tryz.ntmps159
  go_wp2_with fail
  go_ret
  exact ⟨rfl, rfl⟩

theorem LsAt.slice {w : World} {b : Nat} {v : Value} {p : Nat} {m : Int} (h : LsAt w b v (List.replicate p m)) : ∃ a c, v = .slice a p c := by
  obtain ⟨a, c, e, _⟩ := row_form h
  exact ⟨a, c, by simpa using e⟩

theorem own_slice {w : World} {base : Nat} {e : TypeId} {v : Value} {n : Nat} {xs : List Value} (h : w.ownsRow base e 1 v n xs) : ∃ a k c, v = .slice a k c := by
  obtain ⟨a, c, e, _⟩ := row_form h
  exact ⟨a, n, c, e⟩

theorem alt_le {a b : Option Nat} {n m : Nat} (h : a = b ∨ ∃ k, a = some k ∧ n ≤ k) (hm : m ≤ n) : a = b ∨ ∃ k, a = some k ∧ m ≤ k := by
  rcases h with h | ⟨k, e, hk⟩
  · exact Or.inl h
  · exact Or.inr ⟨k, e, by omega⟩

theorem filled_set (L : List Int) (m : Int) (k : Nat) (h : k < L.length) : (List.replicate k m ++ L.drop k).set k m = List.replicate (k + 1) m ++ L.drop (k + 1) := by
  rw [List.set_append_right k m (by simp), List.length_replicate, Nat.sub_self, List.drop_eq_getElem_cons h, List.set_cons_zero, List.replicate_succ', List.append_assoc]; rfl

set_option maxHeartbeats 2000000 in
theorem owns_any (bb : Nat) (vi vm vl : Value) (E : List (Value × Int)) (nx : Int) (L : List Int) (w : World) (h : BkAt w bb vi vm E nx) (own : LsAt w (bb + 1) vl L) (hL : L.length ≤ 500000000) (hE : E.length ≤ 500000000)
    (h0 : -2000000000 ≤ nx) (h1 : nx ≤ 0) (hv : Apart vl vm) (hEa : ∀ x ∈ E, Apart x.1 vl) :
    Calls Tryz.prog 89 #[.pointer (some ⟨bb, 0, none⟩), vl] w fun e w' => ∃ vi' vm' o1 o2 o3, e = .returned (.tuple #[]) ∧ BkAt w' bb vi' vm' (E ++ [(vl, nx - 1), (o1, nx - 1), (o2, nx - 1), (o3, nx - 1)]) (nx - 1) ∧
      Fr (fun g => g = bb ∨ some g = vi.ownBlock ∨ some g = vm.ownBlock ∨ some g = vl.ownBlock) w w' ∧ (vm'.ownBlock = vm.ownBlock ∨ ∃ k, vm'.ownBlock = some k ∧ w.heap.size ≤ k) ∧
      (o1.ownBlock = vl.ownBlock ∨ ∃ k, o1.ownBlock = some k ∧ w.heap.size ≤ k) ∧ (o2.ownBlock = vl.ownBlock ∨ ∃ k, o2.ownBlock = some k ∧ w.heap.size ≤ k) ∧ (o3.ownBlock = vl.ownBlock ∨ ∃ k, o3.ownBlock = some k ∧ w.heap.size ≤ k) := by
  obtain ⟨ao, cap, rfl, q⟩ := row_form own
  have Q : Hid _ := q
  clear q
  have f6 := h.f 6 (by omega)
  have hlt : bb < w.heap.size := World.block_lt_of_cell? _ _ h.c0
  go_enter Tryz.func89, Tryz.ntmps89
  go_wp2_with fail
  refine (mark_any bb nx _ h.c6 f6 h0 h1).mono ?_
  rintro e w1 ⟨rfl, hw1⟩
  have B1 : BkAt w1 bb vi vm E (nx - 1) := hw1 ▸ h.set6 (nx - 1)
  have own1 : LsAt w1 (bb + 1) (.slice ao L.length cap) L := hw1 ▸ ownsRow_setCell_below own (by simp) _
  have F1 : Fr (fun g => g = bb ∨ some g = vi.ownBlock ∨ some g = vm.ownBlock ∨ some g = (Value.slice ao L.length cap).ownBlock) w w1 := hw1 ▸ Fr.set (Or.inl rfl)
  clear hw1
  generalize hm : nx - 1 = m at *
  have hbk : ∀ g, some g = (Value.slice ao L.length cap).ownBlock → bb + 1 ≤ g := fun g e => (World.ownsRow.lt own g e.symm).1
  have hne : some bb ≠ (Value.slice ao L.length cap).ownBlock := fun e => by have := hbk bb e; omega
  have hvi : Apart vi (.slice ao L.length cap) := apart_types h.oi own (by decide)
  have Hm : Hid (nx - 1 = m) := hm
  clear hm
  go_wp2_with fail
  go_loopw [5] (fun i wr => ∃ k : Nat, k ≤ L.length ∧ i = .int .i64 k ∧ LsAt wr (bb + 1) (.slice ao L.length cap) (List.replicate k m ++ L.drop k) ∧ w1.grownBy wr (Value.slice ao L.length cap).ownBlock) (fun i _ => L.length - (intOf i).toNat)
  case atStart => exact ⟨0, Nat.zero_le _, rfl, own1, grown_refl _ _⟩
  case round =>
    obtain ⟨k, hk, rfl, ownr, hgr⟩ := hrel
    have hll : (List.replicate k m ++ L.drop k).length = L.length := by simp; omega
    by_cases hlt : k < L.length
    · obtain ⟨g, rfl, _⟩ := Q.out k (.int .i64 L[k]) (by simp [List.getElem?_eq_getElem hlt])
      have ownr' : wr.ownsRow (bb + 1) 3 1 (.slice (some ⟨g, 0, none⟩) L.length cap) L.length ((List.replicate k m ++ L.drop k).map (Value.int .i64)) := by
        have := ownr
        unfold LsAt at this
        rw [hll] at this
        exact this
      have hst := World.ownsRow.stored ownr' k (.int .i64 m)
      have ce : ∃ y, wr.cell? ⟨g, k, none⟩ = some y := by
        rw [World.ownsRow.cellAt ownr' k (by omega)]
        exact ⟨_, List.getElem?_eq_getElem (by rw [List.length_map, hll]; exact hlt)⟩
      obtain ⟨y, cy⟩ := ce
      have fy := World.ownsRow.frozenAt ownr' k
      have R : LsAt (wr.setCell ⟨g, k, none⟩ (.int .i64 m)) (bb + 1) (.slice (some ⟨g, 0, none⟩) L.length cap) (List.replicate (k + 1) m ++ L.drop (k + 1)) := by
        have h2 := hst.1
        rw [← List.map_set, filled_set L m k hlt] at h2
        unfold LsAt
        rw [show (List.replicate (k + 1) m ++ L.drop (k + 1)).length = L.length by simp; omega]
        exact h2
      have G : w1.grownBy (wr.setCell ⟨g, k, none⟩ (.int .i64 m)) (Value.slice (some ⟨g, 0, none⟩) L.length cap).ownBlock := grown_trans hgr hst.2
      clear hst ownr ownr' hll
      go_wp2_with fail
      go_roundw
      case rel => exact ⟨k + 1, by omega, by go_num, R, G⟩
      case measure => simp [intOf]; omega
    · have hkn : k = L.length := by omega
      subst hkn
      have ownr2 : LsAt wr (bb + 1) (.slice ao L.length cap) (List.replicate L.length m) := by simpa using ownr
      have B2 : BkAt wr bb vi vm E m := B1.grown hgr hne hvi hv.symm hEa
      have F2 : Fr (fun g => g = bb ∨ some g = vi.ownBlock ∨ some g = vm.ownBlock ∨ some g = (Value.slice ao L.length cap).ownBlock) w wr := F1.trans (Fr.grown hgr (fun g e => Or.inr (Or.inr (Or.inr e))))
      have hbr : bb + 1 ≤ wr.heap.size := by have := F2.size; omega
      have hszr := F2.size
      clear ownr hll B1 own1 F1 hgr
      have hln : (List.replicate L.length m).length = L.length := by simp
      have HLn : Hid ((List.replicate L.length m).length = L.length) := hln
      clear hln
      go_wp2_with (at_builtin; refine wp_appI wr rfl _ _ rfl (bb + 1) _ (List.replicate L.length m) [m] _ rfl (by simp) rfl ?a1 _ _ ?a2 rfl rfl ?a3 ?a4 ?_)
      case a1 => exact ownr2
      case a2 => rfl
      case a3 => simp; omega
      case a4 => exact hbr
      intro o1 w2 n1 g1 k1' p1
      have k1 : Hid _ := k1'
      clear k1'
      have v2 := p1 m (by simp) rfl _ _ _ ownr2
      have n1' : LsAt w2 (bb + 1) o1 (List.replicate (L.length + 1) m) := by rw [List.replicate_succ']; exact n1
      have B3 := B2.grown g1 hne hvi hv.symm hEa
      have F3 := F2.trans (Fr.grown g1 (fun g e => Or.inr (Or.inr (Or.inr e))))
      have hb2 : bb + 1 ≤ w2.heap.size := by have := F3.size; omega
      clear p1 n1 B2 F2
      go_wp2_with (at_builtin; refine wp_appI w2 rfl _ _ rfl (bb + 1) _ (List.replicate L.length m) [m, m] _ rfl (by simp) rfl ?b1 _ _ ?b2 rfl rfl ?b3 ?b4 ?_)
      case b1 => exact v2
      case b2 => rfl
      case b3 => simp; omega
      case b4 => exact hb2
      intro o2 w3 n2 g2 k2' p2
      have k2 : Hid _ := k2'
      clear k2'
      have v3 := p2 m (by simp) rfl _ _ _ v2
      have n13 := p2 m (by simp) rfl _ _ _ n1'
      have n2' : LsAt w3 (bb + 1) o2 (List.replicate (L.length + 2) m) := by rw [← List.replicate_append_replicate]; exact n2
      have B4 := B3.grown g2 hne hvi hv.symm hEa
      have F4 := F3.trans (Fr.grown g2 (fun g e => Or.inr (Or.inr (Or.inr e))))
      have hb3 : bb + 1 ≤ w3.heap.size := by have := F4.size; omega
      clear p2 n2 B3 n1' v2
      go_wp2_with (at_builtin; refine wp_appI w3 rfl _ _ rfl (bb + 1) _ (List.replicate L.length m) [m, m, m] _ rfl (by simp) rfl ?d1 _ _ ?d2 rfl rfl ?d3 ?d4 ?_)
      case d1 => exact v3
      case d2 => rfl
      case d3 => simp; omega
      case d4 => exact hb3
      intro o3 w4 n3 g3 k3' p3
      have k3 : Hid _ := k3'
      clear k3'
      have v4 := p3 m (by simp) rfl _ _ _ v3
      have n14 := p3 m (by simp) rfl _ _ _ n13
      have n24 := p3 m (by simp) rfl _ _ _ n2'
      have n3' : LsAt w4 (bb + 1) o3 (List.replicate (L.length + 3) m) := by rw [← List.replicate_append_replicate]; exact n3
      have B5 := B4.grown g3 hne hvi hv.symm hEa
      have F5 := F4.trans (Fr.grown g3 (fun g e => Or.inr (Or.inr (Or.inr e))))
      have hb4 : bb + 1 ≤ w4.heap.size := by have := F5.size; omega
      clear p3 n3 B4 n2' v3 n13
      have z1 : w.heap.size ≤ wr.heap.size := hszr
      have z2 : w.heap.size ≤ w2.heap.size := F3.size
      have z3 : w.heap.size ≤ w3.heap.size := F4.size
      have z4 : w.heap.size ≤ w4.heap.size := F5.size
      have k1' := alt_le k1.out z1
      have k2' := alt_le k2.out z2
      have k3' := alt_le k3.out z3
      have hvmlt : ∀ k, vm.ownBlock = some k → k < w.heap.size := row_lt h.om
      have B6 := B5.more [(.slice ao L.length cap, m), (o1, m), (o2, m), (o3, m)] (by
        intro x hx
        simp only [List.mem_cons, List.not_mem_nil, or_false] at hx
        rcases hx with rfl | rfl | rfl | rfl
        · exact ⟨hv, _, by omega, v4⟩
        · exact ⟨Apart.later k1' hv hvmlt, _, by omega, n14⟩
        · exact ⟨Apart.later k2' hv hvmlt, _, by omega, n24⟩
        · exact ⟨Apart.later k3' hv hvmlt, _, by omega, n3'⟩)
      obtain ⟨a1, e1, rfl⟩ := n14.slice
      obtain ⟨a2, e2, rfl⟩ := n24.slice
      obtain ⟨a3, e3, rfl⟩ := n3'.slice
      have K1 : Hid _ := k1'
      have K2 : Hid _ := k2'
      have K3 : Hid _ := k3'
      clear k1' k2' k3'
      clear B5 F3 F4 g1 g2 g3 k1 k2 k3 v4 n14 n24 n3' hb2 hb3 hbr ownr2
      have c0 := B6.c0
      have f0 := B6.f 0 (by omega)
      go_wp2_with (at_builtin; refine wp_appL w4 rfl _ _ rfl (bb + 1) _ (E.map (·.1)) [.slice ao L.length cap, .slice a1 (L.length + 1) e1, .slice a2 (L.length + 2) e2, .slice a3 (L.length + 3) e3] _ rfl (by simp) ?e0 rfl ?e1 _ _ ?e2 rfl rfl ?e3 ?e4 ?_)
      case e0 =>
        intro y hy
        simp only [List.mem_cons, List.not_mem_nil, or_false] at hy
        rcases hy with rfl | rfl | rfl | rfl <;> rfl
      case e1 => exact B6.oi
      case e2 => rfl
      case e3 => simp; omega
      case e4 => exact hb4
      intro vi' w5 oi' g5
      obtain ⟨ai, ni, ci, evi⟩ := own_slice oi'.out
      obtain ⟨hc5, hf5, B7⟩ := B6.appI vi' (E.map (·.1) ++ [.slice ao L.length cap, .slice a1 (L.length + 1) e1, .slice a2 (L.length + 2) e2, .slice a3 (L.length + 3) e3]) g5 (by simpa using oi'.out)
      have F7 := (F5.trans (Fr.grown g5 (fun g e => Or.inr (Or.inl e)))).trans (Fr.set (b := bb) (o := 0) (x := vi') (Or.inl rfl))
      have c5 : w5.cell? ⟨bb, 0, none⟩ = some vi := (hc5 0).trans c0
      have f5 : w5.frozen? ⟨bb, 0, none⟩ = false := (hf5 0).trans f0
      have c1 := B7.c1
      have f1 := B7.f 1 (by omega)
      have hb7 : bb + 1 ≤ (w5.setCell ⟨bb, 0, none⟩ vi').heap.size := by have := F7.size; omega
      clear B6 c0 f0 g5 oi' hc5 hf5 F5
      subst evi
      go_wp2_with (at_builtin; refine wp_appI (w5.setCell ⟨bb, 0, none⟩ (.slice ai ni ci)) rfl _ _ rfl (bb + 1) _ (E.map (·.2)) [m, m, m, m] _ rfl (by simp) rfl ?h1 _ _ ?h2 rfl rfl ?h3 ?h4 ?_)
      case h1 => exact B7.om
      case h2 => simp
      case h3 => simp; omega
      case h4 => exact hb7
      intro vm' w6 om' g6 k6' _
      obtain ⟨am, nm, cm, evm⟩ := own_slice om'
      obtain ⟨hc6, hf6, B8⟩ := B7.appM vm' _ g6 om' (alt_le k6' (by simp))
      have K6 : Hid _ := alt_le k6' (by have := F7.size; simpa using this)
      have F8 := (F7.trans (Fr.grown g6 (fun g e => Or.inr (Or.inr (Or.inl e))))).trans (Fr.set (b := bb) (o := 1) (x := vm') (Or.inl rfl))
      have c6 : w6.cell? ⟨bb, 1, none⟩ = some vm := (hc6 1).trans c1
      have f6 : w6.frozen? ⟨bb, 1, none⟩ = false := (hf6 1).trans f1
      clear B7 c1 f1 g6 om' hc6 hf6 F7 c5 f5 k6'
      subst evm
      have B9 : BkAt (w6.setCell ⟨bb, 1, none⟩ (.slice am nm cm)) bb (.slice ai ni ci) (.slice am nm cm) (E ++ [(.slice ao L.length cap, m), (.slice a1 (L.length + 1) e1, m), (.slice a2 (L.length + 2) e2, m), (.slice a3 (L.length + 3) e3, m)]) m := by
        unfold BkAt
        rw [List.map_append, List.map_append]
        exact B8
      clear B8
      go_wp2_with fail
      go_end0
      rw [Hm.out]
      exact ⟨_, _, _, _, _, rfl, B9, F8, K6.out, K1.out, K2.out, K3.out⟩

end Go.Proofs.YtheibfffilomcaaGreatDoor
