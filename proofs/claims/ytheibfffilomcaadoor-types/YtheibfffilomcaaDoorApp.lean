/- append on a list of the call's own, told exactly: where the new list lies, and that lists of one mark stay full of it. -/
import Derived.WalkKit
import Derived.WalkSpells
import Derived.WalkLawsBesides
namespace Go.Proofs.YtheibfffilomcaaDoor
open Go.RowKit

def reps (n : Nat) (c : List Value) : List Value := (List.replicate n c).flatten
theorem reps_length (n : Nat) (c : List Value) : (reps n c).length = n * c.length := by simp [reps]
theorem reps_add (n m : Nat) (c : List Value) : reps (n + m) c = reps n c ++ reps m c := by
  unfold reps; rw [← List.replicate_append_replicate, List.flatten_append]
theorem reps_take {p q : Nat} (h : p ≤ q) (c : List Value) : (reps q c).take (p * c.length) = reps p c := by
  obtain ⟨d, rfl⟩ := Nat.exists_eq_add_of_le h
  rw [reps_add, List.take_append_of_le_length (by rw [reps_length]; exact Nat.le_refl _)]
  exact List.take_of_length_le (by rw [reps_length]; exact Nat.le_refl _)

/-- Two lists that lie apart. -/
def Apart (u v : Value) : Prop := u.ownBlock = none ∨ u.ownBlock ≠ v.ownBlock

/-- Lists of elements of the cells c stay full of them. -/
def KeepsReps (e size : Nat) (c : List Value) (w w' : World) : Prop := ∀ base u p, w.ownsRow base e size u p (reps p c) → w'.ownsRow base e size u p (reps p c)

section
variable {P : Program} (w : World)

theorem run_append_strong (base : Nat) (t ty e : TypeId) (i : TypeInfo) (z : Value) (size bytes : Nat) (ht : P.underlying t = some (.slice e)) (hi : P.info? e = some i) (hz : i.zero = some z)
    (hsize : i.size = size) (hby : i.bytes = bytes) (hzs : z.cells.size = size)
    (v : Value) (n : Nat) (xs : List Value) (hown : w.ownsRow base e size v n xs)
    (a : Addr) (m c : Nat) (news : List Value) (hl : news.length = m * size) (hnews : ∀ j u, news[j]? = some u → w.cell? (a.add j) = some u) (h1 : ∀ u ∈ news, u.oneCell' = true)
    (hm0 : 0 < m) (h63 : n + m ≤ maxLen) (hbytes : (n + m) * bytes ≤ 140737488355328) (hbase : base ≤ w.heap.size) :
    ∃ v' w', (Builtin.append_ #[t, t] ty #[v, .slice (some a) m c]).run P w = .ok v' w' ∧ w'.ownsRow base e size v' (n + m) (xs ++ news) ∧ w.grownBy w' v.ownBlock ∧
      (v'.ownBlock = v.ownBlock ∨ ∃ k, v'.ownBlock = some k ∧ w.heap.size ≤ k) ∧
      ∀ cs : List Value, cs.length = size → xs = reps n cs → news = reps m cs → KeepsReps e size cs w w' := by
  have hsmall : n + m ≤ 9223372036854775807 := by simp only [maxLen] at h63; omega
  have hlen : (xs ++ news).length = (n + m) * i.size := by rw [List.length_append, hown.1, hl, hsize, Nat.add_mul]
  have grown : ∀ (old : Nat), old < n + m → ∀ (row : Option Nat),
      (w.drew.alloc (.cells (xs.toArray ++ news.toArray ++ Builtin.zeroCells z.cells (grownCap w (n + m) old e - (n + m))) e)).ownsRow base e size
        (.slice (some ⟨w.heap.size, 0, none⟩) (n + m) (grownCap w (n + m) old e)) (n + m) (xs ++ news) ∧
      w.grownBy (w.drew.alloc (.cells (xs.toArray ++ news.toArray ++ Builtin.zeroCells z.cells (grownCap w (n + m) old e - (n + m))) e)) row := by
    intro old ho row
    have hge := grownCap_ge w (n + m) old e
    have hcm : grownCap w (n + m) old e ≤ maxLen := grownCap_le_maxLen w (n + m) old e h63
    refine ⟨⟨by rw [hlen, hsize], .inr ⟨w.heap.size, _, _, rfl, hbase, heap_alloc_new w.drew _, hge, hcm, ?_, ?_⟩⟩, ⟨rfl, rfl, rfl, by simp, fun k hk _ => Below.heap_alloc w.drew _ k hk⟩⟩
    · simp only [Array.size_append, List.size_toArray, size_zeroCells, hzs, hown.1, hl, ← Nat.add_mul]
      congr 1
      omega
    · simp only [Array.toList_append, List.append_assoc]
      rw [← List.append_assoc, ← hsize, ← hlen]
      exact List.take_left
  rcases hown.2 with ⟨rfl, rfl⟩ | ⟨g, cap, cur, rfl, hbg, hg, hnc, hcm, hcs, htake⟩
  · have hx : xs = [] := List.eq_nil_of_length_eq_zero (by simpa using hown.1)
    subst hx
    have hr := run_append_nil (P := P) w t ty e i z ht hi hz a m c news (by rw [hl, hsize]) hnews hm0 (by omega) (by have hb := hbytes; simp only [Nat.zero_add] at hb; rw [hby]; omega)
    have hgr := grown 0 (by omega) none
    simp only [Nat.zero_add, List.nil_append, Array.empty_append] at hgr ⊢
    exact ⟨_, _, hr, hgr.1, hgr.2, Or.inr ⟨w.heap.size, rfl, Nat.le_refl _⟩, fun _ _ _ _ _ u _ h => h.kept hgr.2 (by cases hv : u.ownBlock <;> simp)⟩
  · by_cases hroom : n + m ≤ cap
    · have hfit : n * i.size + news.length ≤ cur.size := by rw [hl, hcs, hsize, ← Nat.add_mul]; exact Nat.mul_le_mul_right _ hroom
      have hr := run_append_room (P := P) w t ty e i ht hi g n cap cur hg a m c news (by rw [hl, hsize]) hnews h1 hroom hfit
      have hg' := setRow_heap w g cur (cur.toList.take (n * i.size) ++ news ++ cur.toList.drop (n * i.size + news.length)).toArray e _ hg
      have hgb : w.grownBy (w.setRow g (cur.toList.take (n * i.size) ++ news ++ cur.toList.drop (n * i.size + news.length)).toArray) (some g) :=
        ⟨rfl, rfl, rfl, by simp, fun k _ hk => setRow_other w g k _ (fun e => hk (by simp [e]))⟩
      have hsz' : (cur.toList.take (n * i.size) ++ news ++ cur.toList.drop (n * i.size + news.length)).length = cur.size := by
        simp only [List.length_append, List.length_take, List.length_drop, Array.length_toList]
        omega
      refine ⟨_, _, hr, ⟨by rw [hlen, hsize], .inr ⟨g, cap, _, rfl, hbg, hg', hroom, hcm, ?_, ?_⟩⟩, hgb, Or.inl rfl, ?_⟩
      · rw [List.size_toArray, hsz', hcs]
      · rw [← hsize, ← hlen, hsize, htake]
        exact List.take_left
      · intro cs hc hxs hne base' u p hu
        by_cases hub : u.ownBlock = some g
        · refine ⟨hu.1, ?_⟩
          rcases hu.2 with ⟨rfl, _⟩ | ⟨g2, cap2, cur2, rfl, hb2, hg2, hn2, hm2, hcs2, htk2⟩
          · simp [Value.ownBlock] at hub
          · simp [Value.ownBlock] at hub
            subst hub
            obtain rfl : cur = cur2 := by
              have := hg.symm.trans hg2
              simp only [Option.some.injEq, Obj.cells.injEq, and_true] at this
              exact this
            refine .inr ⟨g2, cap2, _, rfl, hb2, hg', hn2, hm2, ?_, ?_⟩
            · rw [List.size_toArray, hsz', hcs2]
            · show List.take (p * size) (cur.toList.take (n * i.size) ++ news ++ cur.toList.drop (n * i.size + news.length)) = reps p cs
              rw [hsize, htake, hxs, hne, ← reps_add]
              have hnl : n * size + (reps m cs).length = (n + m) * size := by rw [reps_length, hc, Nat.add_mul]
              rw [hnl]
              by_cases hp : p ≤ n + m
              · rw [List.take_append_of_le_length (by rw [reps_length, hc]; exact Nat.mul_le_mul_right _ hp), ← hc, reps_take hp]
              · have : reps (n + m) cs = cur.toList.take ((n + m) * size) := by
                  rw [← reps_take (show n + m ≤ p by omega) cs, hc, ← htk2, List.take_take]
                  congr 1
                  exact Nat.min_eq_left (Nat.mul_le_mul_right _ (by omega))
                rw [this, List.take_append_drop]
                exact htk2
        · exact hu.kept hgb (Or.inr hub)
    · have holds : ∀ j u, xs[j]? = some u → w.cell? ((⟨g, 0, none⟩ : Addr).add j) = some u := hown.cells (g := g) rfl
      have hr := run_append_grow (P := P) w t ty e i z ht hi hz ⟨g, 0, none⟩ n cap xs (by rw [hown.1, hsize]) holds a m c news (by rw [hl, hsize]) hnews (by omega) (by omega) (growslice_fits (by omega) (by rw [hby]; exact hbytes))
      have hgr := grown cap (by omega) none
      have hgr2 := grown cap (by omega) (Value.ownBlock (.slice (some ⟨g, 0, none⟩) n cap))
      exact ⟨_, _, hr, hgr.1, hgr2.2, Or.inr ⟨w.heap.size, rfl, Nat.le_refl _⟩, fun _ _ _ _ _ u _ h => h.kept hgr.2 (by cases hv : u.ownBlock <;> simp)⟩

theorem wpList_append_strong {ops : Array Oper} {rest : List Oper} {o : Oper} {a : Act} {Q : Exit → Act → World → Prop} (hgd : o.guard = none) (s x : Operand) (t : TypeId)
    (ho : o.op = .call { callee := .builtin .append, args := #[s, x], argTypes := #[t, t] })
    (base : Nat) (e : TypeId) (i : TypeInfo) (z : Value) (size bytes : Nat) (ht : P.underlying t = some (.slice e)) (hi : P.info? e = some i) (hz : i.zero = some z)
    (hsize : i.size = size) (hby : i.bytes = bytes) (hzs : z.cells.size = size)
    (v : Value) (n : Nat) (xs : List Value) (hs : a.eval s = v) (hown : w.ownsRow base e size v n xs)
    (ad : Addr) (m c : Nat) (news : List Value) (hx : a.eval x = .slice (some ad) m c) (hl : news.length = m * size) (hnews : ∀ j u, news[j]? = some u → w.cell? (ad.add j) = some u) (h1 : ∀ u ∈ news, u.oneCell' = true)
    (hm0 : 0 < m) (h63 : n + m ≤ maxLen) (hbytes : (n + m) * bytes ≤ 140737488355328) (hbase : base ≤ w.heap.size)
    (h : ∀ v' w', w'.ownsRow base e size v' (n + m) (xs ++ news) → w.grownBy w' v.ownBlock → (v'.ownBlock = v.ownBlock ∨ ∃ k, v'.ownBlock = some k ∧ w.heap.size ≤ k) →
      (∀ cs : List Value, cs.length = size → xs = reps n cs → news = reps m cs → KeepsReps e size cs w w') → wpList P ops Q rest (a.put o.dst v') w') : wpList P ops Q (o :: rest) a w := by
  refine wpList_plain hgd fun _ hK => ?_
  obtain ⟨v', w', hr, h2, h3, h4, h5⟩ := run_append_strong (P := P) w base t o.type e i z size bytes ht hi hz hsize hby hzs v n xs hown ad m c news hl hnews h1 hm0 h63 hbytes hbase
  unfold Oper.wp execOp
  simp only [ho, resolve, invoke, builtin, Sem.run_bind, Sem.run_pure, Result.andThen_ok, List.map_toArray, List.map_cons, List.map_nil, hs, hx, hr]
  exact hK _ _ (h v' w' h2 h3 h4 h5)
end

/-- Cells of a block that has just been laid. -/
theorem cells_new (u : World) (xs : List Value) (t : TypeId) : ∀ j y, xs[j]? = some y → (u.alloc (.cells xs.toArray t)).cell? ((⟨u.heap.size, 0, none⟩ : Addr).add j) = some y := by
  intro j y hj
  have hadd : (⟨u.heap.size, 0, none⟩ : Addr).add j = ⟨u.heap.size, j, none⟩ := by unfold Addr.add; split <;> simp_all
  rw [hadd, cell_of_row _ _ _ _ _ _ (heap_alloc_new u _)]
  simpa using hj

end Go.Proofs.YtheibfffilomcaaDoor
