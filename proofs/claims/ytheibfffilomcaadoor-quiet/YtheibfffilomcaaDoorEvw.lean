/- The walk of Events: a text's events are what the plain function says; nothing old is changed. -/
import Derived.Test.YtheibfffilomcaaDoorMwf
import Derived.Test.YtheibfffilomcaaDoorEvb
import Derived.Test.YtheibfffilomcaaDoorBoo4
namespace Go.Proofs.YtheibfffilomcaaDoor
open Go.RowKit

theorem lead_bd {b : Int} {r : RS} (h : lead b = some r) : r.ok := lead_ok h
theorem beg_bd {s : RS} {b : Int} (h0 : 0 ≤ b) (h1 : b < 256) : ∀ c ∈ (s.beg b).2, 0 ≤ c ∧ c ≤ 10000000 := by
  intro c hc
  unfold RS.beg at hc
  split at hc
  · simp at hc; omega
  · split at hc
    · simp at hc
    · simp at hc; omega
theorem take_bd {s : RS} {b : Int} (hs : s.ok) (h0 : 0 ≤ b) (h1 : b < 256) : ∀ c ∈ (s.take b).2, 0 ≤ c ∧ c ≤ 10000000 := by
  intro c hc
  unfold RS.take at hc
  split at hc
  · exact beg_bd h0 h1 c hc
  · split at hc
    · rcases List.mem_append.1 hc with hc | hc
      · unfold RS.fin at hc
        split at hc
        · simp at hc
        · simp at hc; omega
      · exact beg_bd h0 h1 c hc
    · unfold RS.join at hc
      split at hc
      · have := hs.v0
        have := hs.v1 ‹_›
        simp at hc; omega
      · simp at hc
theorem run_bd {s : RS} (hs : s.ok) (l : List Int) (hl : ∀ b ∈ l, 0 ≤ b ∧ b < 256) : ∀ c ∈ (s.run l).2, 0 ≤ c ∧ c ≤ 10000000 := by
  induction l generalizing s with
  | nil => intro c hc; simp [RS.run] at hc
  | cons b l ih =>
    intro c hc
    have hb := hl b (by simp)
    simp only [RS.run] at hc
    rcases List.mem_append.1 hc with hc | hc
    · exact take_bd hs hb.1 hb.2 c hc
    · exact ih (hs.take b) (fun x hx => hl x (by simp [hx])) c hc
theorem decode_bd (l : List Int) (hl : ∀ b ∈ l, 0 ≤ b ∧ b < 256) : ∀ c ∈ decode l, 0 ≤ c ∧ c ≤ 10000000 := by
  intro c hc
  unfold decode at hc
  rcases List.mem_append.1 hc with hc | hc
  · exact run_bd RS.ok.zero l hl c hc
  · unfold RS.fin at hc
    split at hc
    · simp at hc
    · simp at hc; omega

/-- The events of characters. -/
def MS.evs (s : MS) : List Int → MS × List (List Int)
  | [] => (s, [])
  | c :: r => ((MS.evs (s.take c).1 r).1, (if (s.take c).2.2 then [(s.take c).2.1] else []) ++ (MS.evs (s.take c).1 r).2)
theorem evs_append (s : MS) (l r : List Int) : s.evs (l ++ r) = (((s.evs l).1.evs r).1, (s.evs l).2 ++ ((s.evs l).1.evs r).2) := by
  induction l generalizing s with
  | nil => simp [MS.evs]
  | cons b l ih => simp [MS.evs, ih, List.append_assoc]
theorem evs_snoc (s : MS) (l : List Int) (c : Int) : s.evs (l ++ [c]) = (((s.evs l).1.take c).1, (s.evs l).2 ++ (if ((s.evs l).1.take c).2.2 then [((s.evs l).1.take c).2.1] else [])) := by
  rw [evs_append]; simp [MS.evs]
theorem evs_ok {s : MS} (h : s.ok) (l : List Int) (hl : ∀ c ∈ l, 0 ≤ c ∧ c ≤ 10000000) : (s.evs l).1.ok ∧ (∀ e ∈ (s.evs l).2, e.length = 21) ∧ (s.evs l).2.length ≤ l.length := by
  induction l generalizing s with
  | nil => exact ⟨h, fun e he => by simp [MS.evs] at he, by simp [MS.evs]⟩
  | cons c l ih =>
    have hc := hl c (by simp)
    obtain ⟨a1, a2, a3⟩ := ih (h.take hc.1 hc.2) (fun x hx => hl x (by simp [hx]))
    refine ⟨a1, fun e he => ?_, ?_⟩
    · simp only [MS.evs] at he
      rcases List.mem_append.1 he with he | he
      · split at he
        · simp at he; rw [he]; exact take_len2 h.len c
        · simp at he
      · exact a2 e he
    · simp only [MS.evs, List.length_append, List.length_cons]
      split
      · simp; omega
      · simp; omega
def eventsN (l : List Int) : List (List Int) := (MS.zero.evs l).2

theorem own_km {mb mo : Nat} {w w' : World} {b : Nat} {e : TypeId} {sz : Nat} {v : Value} {n : Nat} {xs : List Value} (h : w.ownsRow b e sz v n xs) (k : Km mb mo w w') (hb : mb < b) : w'.ownsRow b e sz v n xs := by
  refine ⟨h.1, ?_⟩
  rcases h.2 with h2 | ⟨g, cap, cur, rfl, hbg, hg, r⟩
  · exact Or.inl h2
  · exact Or.inr ⟨g, cap, cur, rfl, hbg, (k.block g (Array.getElem?_eq_some_iff.1 hg).1 (by omega)).trans hg, r⟩
theorem own_new {w u' : World} {b : Nat} {e : TypeId} {sz : Nat} {v : Value} {n g : Nat} {xs : List Value} (h : w.ownsRow b e sz v n xs) (k : w.grownBy u' (some g)) (hg : w.heap.size ≤ g) : u'.ownsRow b e sz v n xs :=
  h.kept k (by
    cases hv : v.ownBlock with
    | none => exact Or.inl rfl
    | some j => right; have := (h.lt j hv).2; simp; omega)
theorem below_new {B : Nat} {w u u' : World} {g : Nat} (h : Below B w u) (k : u.grownBy u' (some g)) (hB : B ≤ u.heap.size) (hg : B ≤ g) : Below B w u' := h.grown k hB (fun j e => by simp at e; omega)

/-- A new machine. -/
def macObj : Obj := .cells (intA MS.zero.l) 85
theorem mac_new (w : World) : MAt (w.alloc macObj) w.heap.size 0 .zero := by
  have h : (w.alloc macObj).heap[w.heap.size]? = some (.cells (intA MS.zero.l) 85 (0, 0)) := heap_alloc_new w macObj
  refine ⟨rfl, fun j v hv => ?_, fun j hj => frozen_of_row _ _ _ _ _ h⟩
  rw [cell_of_row _ _ _ _ _ _ h, Nat.zero_add]
  simpa [intA] using hv

set_option maxRecDepth 100000 in
set_option maxHeartbeats 2000000 in
theorem events_any (s : ByteArray) (w : World) (hle : Leads w) (hs : s.size ≤ 2000000) :
    Calls Tryd.prog 34 #[.string s] w fun e w' => ∃ v, e = .returned v ∧ EvAt w' w.heap.size v (eventsN (decode (bl s))) ∧ Below w.heap.size w w' := by
  have h1 := hle.lt
  have hdl := decode_len (bl s)
  have hbd := decode_bd (bl s) (bl_byte s)
  rw [bl_length] at hdl
  have m0 := mac_new w
  have b0 : Below w.heap.size w (w.alloc macObj) := (Below.refl _ _).alloc (Nat.le_refl _) _
  have hle0 : Leads (w.alloc macObj) := hle.kept (b0.block 1 h1)
  go_enter Tryd.func34, Tryd.ntmps34
  go_wp2_with fail
  refine (runes_any s (w.alloc macObj) hle0 (by omega)).mono ?_
  rintro e w1 ⟨v1, rfl, l1, b1⟩
  have hz0 : (w.alloc macObj).heap.size = w.heap.size + 1 := by simp
  rw [hz0] at l1 b1
  have m1 : MAt w1 w.heap.size 0 .zero := m0.kept (b1.block _ (by omega))
  have bb1 : Below w.heap.size w w1 := b0.trans (b1.mono (by omega))
  have hz1 : w.heap.size + 1 ≤ w1.heap.size := by have := b1.size; omega
  obtain ⟨D, hD⟩ : ∃ D, D = decode (bl s) := ⟨_, rfl⟩
  rw [← hD] at l1 hdl hbd
  have HD : Hid (D = decode (bl s)) := hD
  clear hD b1 m0 b0 hle0 hz0
  obtain ⟨a1, c1, rfl, _⟩ := row_form l1
  go_wp2_with fail
  go_loopw [4, 12] (fun v i wr => ∃ (k : Nat) (S : MS) (E : List (List Int)), k ≤ D.length ∧ i = .int .i64 k ∧ Hid (MS.zero.evs (D.take k) = (S, E)) ∧ EvAt wr (w.heap.size + 1) v E ∧ MAt wr w.heap.size 0 S ∧ LsAt wr (w.heap.size + 1) (.slice a1 D.length c1) D ∧ Below w.heap.size w wr ∧ w.heap.size + 1 ≤ wr.heap.size)
    (fun _ i _ => D.length - (intOf i).toNat)
  case atStart => exact ⟨0, .zero, [], Nat.zero_le _, rfl, rfl, World.ownsRow_nil _ _ _ _, m1, l1, bb1, hz1⟩
  case round =>
    obtain ⟨k, S, E, hk, rfl, H, ev, m, l, b, hz⟩ := hrel
    have hok := evs_ok MS.ok.zero (D.take k) (fun c hc => hbd c (List.mem_of_mem_take hc))
    rw [H.out] at hok
    obtain ⟨hS, hE21, hEk⟩ := hok
    have hEl : E.length ≤ k := by have : (D.take k).length ≤ k := List.length_take_le _ _; dsimp only at hEk; omega
    dsimp only at hS hE21
    by_cases hlt : k < D.length
    · obtain ⟨_, _, ee, q⟩ := row_form l
      obtain ⟨g, hg, cc⟩ := q k (.int .i64 D[k]) (by simp [List.getElem?_eq_getElem hlt])
      cases ee
      subst hg
      have hcb := hbd D[k] (List.getElem_mem hlt)
      have H2 : Hid (MS.zero.evs (D.take (k + 1)) = ((S.take D[k]).1, E ++ (if (S.take D[k]).2.2 then [(S.take D[k]).2.1] else []))) := by
        show _ = _
        rw [List.take_succ_eq_append_getElem hlt, evs_snoc, H.out]
      generalize D[k] = c at *
      have hl21 := take_len2 hS.len c
      obtain ⟨⟨S', EV, B⟩, hT⟩ : ∃ x, S.take c = x := ⟨_, rfl⟩
      rw [hT] at H2 hl21
      have HT : Hid (S.take c = (S', EV, B)) := hT
      clear hT q
      dsimp only at H2 hl21
      go_wp2_with fail
      refine (take_walk w.heap.size 0 S c _ m hS hcb.1 hcb.2).mono ?_
      rw [HT.out]
      rintro e u1 ⟨rfl, mu1, ku1⟩
      dsimp only at mu1 ⊢
      have ev1 : EvAt u1 (w.heap.size + 1) _ E := own_km ev ku1 (by omega)
      have l1' : LsAt u1 (w.heap.size + 1) (.slice (some ⟨g, 0, none⟩) D.length c1) D := own_km l ku1 (by omega)
      have bu1 : Below w.heap.size w u1 := b.trans (ku1.below (Nat.le_refl _) (by omega))
      have hzu1 : w.heap.size + 1 ≤ u1.heap.size := by have := ku1.size; omega
      clear ev m l b ku1 cc
      go_wp2_with (refine wp_eset _ rfl (.tmp 7) (.tmp 19) rfl u1.heap.size noEv EV rfl _ rfl rfl hl21 75 (heap_alloc_new u1 _) rfl ?_)
      intro u2 gu2 ru2 zu2
      have r2 : u1.grownBy u2 (some u1.heap.size) := grown_trans (World.grownBy_alloc u1 _ _) ru2
      have ev2 : EvAt u2 (w.heap.size + 1) _ E := own_new ev1 r2 (Nat.le_refl _)
      have l2' : LsAt u2 (w.heap.size + 1) (.slice (some ⟨g, 0, none⟩) D.length c1) D := own_new l1' r2 (Nat.le_refl _)
      have mu2 : MAt u2 w.heap.size 0 S' := mu1.own r2 (by omega)
      have bu2 : Below w.heap.size w u2 := below_new bu1 r2 (by omega) (by omega)
      have hzu2 : w.heap.size + 1 ≤ u2.heap.size := by have := r2.size; omega
      clear ev1 l1' mu1 bu1 ru2 r2
      cases B with
      | false =>
        have H3 : Hid (MS.zero.evs (D.take (k + 1)) = (S', E)) := by
          have := H2.out
          simp only [Bool.false_eq_true, if_false, List.append_nil] at this
          exact this
        clear H2
        go_wp2_with fail
        go_roundw
        case rel => exact ⟨k + 1, S', E, by omega, by go_num, H3, ev2, mu2, l2', bu2, hzu2⟩
        case measure => simp [intOf]; omega
      | true =>
        have H3 : Hid (MS.zero.evs (D.take (k + 1)) = (S', E ++ [EV])) := by
          have := H2.out
          simp only [if_true] at this
          exact this
        clear H2
        have hone : ∀ e ∈ [EV], e.length = 21 := by intro e he; simp at he; rw [he]; exact hl21
        go_wp2_with (first | (refine wp_eload _ rfl (.tmp 7) rfl u1.heap.size EV rfl hl21 75 (0, 0) gu2 ?_) | (refine wp_bs1 _ rfl (.tmp 23) rfl EV hl21 rfl ?_) | (at_builtin; refine wp_appE u2 rfl _ _ rfl (w.heap.size + 1) _ E [EV] _ ?c0 hone (by simp) rfl ?c1 _ _ ?c2 rfl rfl ?c3 ?c4 ?_))
        try (case c0 => simp)
        try (case c1 => exact ev2)
        case c2 => rfl
        case c3 => simp; omega
        case c4 => exact hzu2
        intro v' w' ev' gr' _ _
        have mu' : MAt w' w.heap.size 0 S' := mu2.kept (gr'.block _ mu2.lt (fun e => by have := (World.ownsRow.lt ev2 _ e.symm).1; omega))
        have l' : LsAt w' (w.heap.size + 1) (.slice (some ⟨g, 0, none⟩) D.length c1) D := World.ownsRow.kept l2' gr' (apart_types l2' ev2 (by decide))
        have b' : Below w.heap.size w w' := bu2.grown gr' (by omega) (fun j e => by have := (World.ownsRow.lt ev2 j e).1; omega)
        have hz' : w.heap.size + 1 ≤ w'.heap.size := by have := gr'.size; omega
        clear ev2 l2' mu2 bu2 gr' gu2
        go_wp2_with fail
        go_roundw
        case rel => exact ⟨k + 1, S', E ++ [EV], by omega, by go_num, H3, ev', mu', l', b', hz'⟩
        case measure => simp [intOf]; omega
    · have hkd : k = D.length := by omega
      have H3 : Hid (E = eventsN (decode (bl s))) := by
        have := H.out
        rw [hkd, List.take_length] at this
        show E = _
        unfold eventsN
        rw [← HD.out, this]
      clear m l H
      go_wp2_with fail
      go_ret
      exact ⟨_, rfl, H3.out ▸ ev.mono (by omega), b⟩

end Go.Proofs.YtheibfffilomcaaDoor
