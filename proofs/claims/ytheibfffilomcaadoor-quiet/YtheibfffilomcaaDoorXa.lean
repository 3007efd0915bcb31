/- The reader's walks again, with all that is not the reader's or the list's own kept. -/
import Derived.Test.YtheibfffilomcaaDoorWb
import Derived.Test.YtheibfffilomcaaDoorApp
import Derived.Test.YtheibfffilomcaaDoorCa
namespace Go.Proofs.YtheibfffilomcaaDoor
open Go.RowKit

/-- All is kept but the reader's four cells and the list's own block; the list is where it was, or in a new block. -/
structure Kl (v v' : Value) (rb ro : Nat) (w w' : World) : Prop where
  os : w'.os = w.os
  tape : w'.tape = w.tape
  output : w'.output = w.output
  size : w.heap.size ≤ w'.heap.size
  block : ∀ k, k < w.heap.size → k ≠ rb → v.ownBlock ≠ some k → w'.heap[k]? = w.heap[k]?
  cell : ∀ o, (o < ro ∨ ro + 4 ≤ o) → w'.cell? ⟨rb, o, none⟩ = w.cell? ⟨rb, o, none⟩
  frozen : ∀ o, w'.frozen? ⟨rb, o, none⟩ = w.frozen? ⟨rb, o, none⟩
  own : ∀ k, v'.ownBlock = some k → v.ownBlock = some k ∨ w.heap.size ≤ k
theorem Kl.refl (v : Value) (rb ro : Nat) (w : World) : Kl v v rb ro w w := ⟨rfl, rfl, rfl, Nat.le_refl _, fun _ _ _ _ => rfl, fun _ _ => rfl, fun _ => rfl, fun _ h => .inl h⟩
theorem Kl.trans {v v1 v2 : Value} {rb ro : Nat} {a b c : World} (h : Kl v v1 rb ro a b) (k : Kl v1 v2 rb ro b c) : Kl v v2 rb ro a c :=
  ⟨k.os.trans h.os, k.tape.trans h.tape, k.output.trans h.output, Nat.le_trans h.size k.size, fun i hi hn hv => (k.block i (Nat.lt_of_lt_of_le hi h.size) hn (fun e => by rcases h.own i e with q | q; exact hv q; omega)).trans (h.block i hi hn hv),
   fun o ho => (k.cell o ho).trans (h.cell o ho), fun o => (k.frozen o).trans (h.frozen o), fun i hi => by
     rcases k.own i hi with q | q
     · exact h.own i q
     · exact .inr (Nat.le_trans h.size q)⟩
theorem Kl.setRd (v : Value) {rb ro : Nat} (w : World) (s : RS) : Kl v v rb ro w (World.setRd w rb ro s) := by
  have k := setRd_kp (base := w.heap.size) (rb := rb) (ro := ro) w s
  exact ⟨k.os, k.tape, k.output, k.size, fun i hi hn _ => k.block i hi hn, k.cell, k.frozen, fun _ h => .inl h⟩
theorem Kl.below {v : Value} {rb ro : Nat} {w w' : World} (h : Below w.heap.size w w') (hr : rb < w.heap.size) : Kl v v rb ro w w' := ⟨h.os, h.tape, h.output, h.size, fun i hi _ _ => h.block i hi, fun _ _ => h.cell hr, fun _ => h.frozen hr, fun _ h => .inl h⟩
theorem Kl.grown {v v' : Value} {rb ro : Nat} {u w1 : World} (h : u.grownBy w1 v.ownBlock) (ho : ∀ k, v'.ownBlock = some k → v.ownBlock = some k ∨ u.heap.size ≤ k) (hne : v.ownBlock ≠ some rb) (hr : rb < u.heap.size) : Kl v v' rb ro u w1 := by
  have hb : w1.heap[rb]? = u.heap[rb]? := h.block rb hr (fun e => hne e.symm)
  exact ⟨h.os, h.tape, h.output, h.size, fun i hi _ hv => h.block i hi (fun e => hv e.symm), fun _ _ => World.cell?_of_block hb, fun _ => World.frozen?_of_block hb, ho⟩

theorem grown_transX {a b c : World} {row : Option Nat} (h : a.grownBy b row) (k : b.grownBy c row) : a.grownBy c row := ⟨k.os.trans h.os, k.tape.trans h.tape, k.output.trans h.output, Nat.le_trans h.size k.size, fun i hi hn => (k.block i (Nat.lt_of_lt_of_le hi h.size) hn).trans (h.block i hi hn)⟩
theorem wp_app1s {ops : Array Oper} {rest : List Oper} {o : Oper} {a : Act} {Q : Exit → Act → World → Prop} (u : World) (hgd : o.guard = none) (s x : Operand)
    (ho : o.op = .call { callee := .builtin .append, args := #[s, x], argTypes := #[26, 26] }) (base : Nat) (v : Value) (L : List Int) (y : Int) (hs : a.eval s = v) (own : LsAt u base v L)
    (g : Nat) (hg : g = u.heap.size) (hx : a.eval x = .slice (some ⟨g, 0, none⟩) 1 1) (hL : L.length ≤ 1000000000) (hb : base ≤ u.heap.size)
    (h : ∀ v' w', LsAt w' base v' (L ++ [y]) → Below base u w' → u.grownBy w' v.ownBlock → (∀ k, v'.ownBlock = some k → v.ownBlock = some k ∨ u.heap.size ≤ k) → wpList Tryd.prog ops Q rest (a.put o.dst v') w') : wpList Tryd.prog ops Q (o :: rest) a (u.alloc (.cells #[.int .i64 y] 3)) := by
  obtain ⟨i0, hi, hz0, hz1, hz2⟩ := info_parts info3
  subst hg
  refine wpList_append_strong _ hgd s x 26 ho base 3 i0 (.int .i64 0) 1 8 Tryd.underlying26 hi hz0 hz1 hz2 rfl v _ _ hs (World.ownsRow.alloc own _) ⟨u.heap.size, 0, none⟩ 1 1 [.int .i64 y] hx rfl (cell_one_new _ _ _) ?_ (by omega) ?_ ?_ ?_ ?_
  · intro z hz; simp at hz; subst hz; rfl
  · unfold maxLen; omega
  · omega
  · simp; omega
  · intro v' w' hown hgrow hor _
    have hg2 : u.grownBy w' v.ownBlock := grown_transX (World.grownBy_alloc u _ _) hgrow
    refine h v' w' (LsAt.one hown) ?_ hg2 (fun k hk => ?_)
    · refine ((Below.refl base u).alloc hb _).grown hgrow (by simp; omega) ?_
      intro k hk
      exact ((World.ownsRow.lt own) k hk).1
    · rcases hor with q | ⟨k', q1, q2⟩
      · exact .inl (q ▸ hk)
      · rw [q1] at hk; cases hk
        exact .inr (by simp at q2; omega)
theorem own_ne {w : World} {base rb : Nat} {v : Value} {L : List Int} (own : LsAt w base v L) (h : rb < base) : v.ownBlock ≠ some rb := fun e => by have := ((World.ownsRow.lt own) rb e).1; omega
theorem Leads.kl {v v' : Value} {rb ro : Nat} {w w' : World} (h : Leads w) (k : Kl v v' rb ro w w') (hr : 1 ≠ rb) (hv : v.ownBlock ≠ some 1) (hs : 1 < w.heap.size) : Leads w' := h.kept (k.block 1 hs hr hv)

set_option maxHeartbeats 400000 in
theorem end_moreL (base rb ro : Nat) (s : RS) (v : Value) (L : List Int) (w : World) (rd : RdAt w rb ro s) (hm : (s.m == 0) = false) (own : LsAt w base v L) (hL : L.length ≤ 1000000000) (hrb : rb < base) (hb : base ≤ w.heap.size) :
    Calls Tryd.prog 38 #[.pointer (some ⟨rb, ro, none⟩), v] w fun e w' => ∃ v', e = .returned v' ∧ LsAt w' base v' (L ++ [65533]) ∧ RdAt w' rb ro .zero ∧ Kl v v' rb ro w w' := by
  have c0 := rd.c0
  have c1 := rd.c1
  have c2 := rd.c2
  have c3 := rd.c3
  have f0 := rd.f 0 (by omega)
  have f1 := rd.f 1 (by omega)
  have f2 := rd.f 2 (by omega)
  have f3 := rd.f 3 (by omega)
  simp only [Nat.add_zero] at f0
  go_enter Tryd.func38, Tryd.ntmps38
  go_wp2_with (at_builtin; refine wp_app1s (World.setRd w rb ro .zero) rfl _ _ rfl base _ L _ rfl ?c1 _ ?c2 rfl hL ?c3 ?_)
  case c1 => exact LsAt.setRd own hrb .zero
  case c2 => simp [World.setRd]
  case c3 => simpa [World.setRd] using hb
  intro v' w1 own1 hbel hgr hown
  have rd1 : RdAt w1 rb ro .zero := (setRd_rd rd .zero).kept (hbel.block rb hrb)
  have k1 : Kl v v' rb ro w w1 := (Kl.setRd v w .zero).trans (Kl.grown hgr hown (own_ne own hrb) (by simp [World.setRd]; omega))
  clear c0 c1 c2 c3 f0 f1 f2 f3
  go_wp2_with fail
  go_ret
  exact ⟨_, rfl, own1, rd1, k1⟩


set_option maxHeartbeats 400000 in
theorem join_lastL (base rb ro : Nat) (s : RS) (b : Int) (v : Value) (L : List Int) (w : World) (rd : RdAt w rb ro s) (hm : (s.m == 1) = true) (hv : 0 ≤ s.val) (hv' : s.val < 32768) (hb0 : 0 ≤ b) (hb1 : b < 256)
    (own : LsAt w base v L) (hL : L.length ≤ 1000000000) (hrb : rb < base) (hb : base ≤ w.heap.size) :
    Calls Tryd.prog 54 #[.pointer (some ⟨rb, ro, none⟩), v, .int .u8 b] w fun e w' => ∃ v', e = .returned v' ∧ LsAt w' base v' (L ++ [s.val * 64 + b % 64]) ∧ RdAt w' rb ro .zero ∧ Kl v v' rb ro w w' := by
  have hbits := bits_or64 s.val (b % 64) hv (by omega) (by omega) (by omega)
  have c0 := rd.c0
  have c1 := rd.c1
  have c2 := rd.c2
  have c3 := rd.c3
  have f0 := rd.f 0 (by omega)
  have f1 := rd.f 1 (by omega)
  have f2 := rd.f 2 (by omega)
  have f3 := rd.f 3 (by omega)
  simp only [Nat.add_zero] at f0
  go_enter Tryd.func54, Tryd.ntmps54
  go_wp2_with (at_builtin; refine wp_app1s (World.setRd w rb ro .zero) rfl _ _ rfl base _ L _ rfl ?c1 _ ?c2 rfl hL ?c3 ?_)
  case c1 => exact LsAt.setRd own hrb .zero
  case c2 => simp [World.setRd]
  case c3 => simpa [World.setRd] using hb
  intro v' w1 own1 hbel hgr hown
  have rd1 : RdAt w1 rb ro .zero := (setRd_rd rd .zero).kept (hbel.block rb hrb)
  have k1 : Kl v v' rb ro w w1 := (Kl.setRd v w .zero).trans (Kl.grown hgr hown (own_ne own hrb) (by simp [World.setRd]; omega))
  clear c0 c1 c2 c3 f0 f1 f2 f3
  go_wp2_with fail
  go_ret
  exact ⟨_, rfl, own1, rd1, k1⟩


theorem join_anyL (base rb ro : Nat) (s : RS) (b : Int) (v : Value) (L : List Int) (w : World) (rd : RdAt w rb ro s) (hs : s.ok) (hm : s.m ≠ 0) (hb0 : 0 ≤ b) (hb1 : b < 256)
    (own : LsAt w base v L) (hL : L.length ≤ 1000000000) (hrb : rb < base) (hb : base ≤ w.heap.size) :
    Calls Tryd.prog 54 #[.pointer (some ⟨rb, ro, none⟩), v, .int .u8 b] w fun e w' => ∃ v', e = .returned v' ∧ LsAt w' base v' (L ++ (s.join b).2) ∧ RdAt w' rb ro (s.join b).1 ∧ Kl v v' rb ro w w' := by
  obtain ⟨a1, a2, a3, a4, a5, a6⟩ := hs
  by_cases h1 : s.m = 1
  · have e : s.join b = (.zero, [s.val * 64 + b % 64]) := by simp [RS.join, h1]
    rw [e]
    exact join_lastL base rb ro s b v L w rd (by simp [h1]) a3 (a4 h1) hb0 hb1 own hL hrb hb
  · have e : s.join b = (⟨s.m - 1, 128, 191, s.val * 64 + b % 64⟩, []) := by simp [RS.join, h1]
    rw [e]
    refine (join_on rb ro s b v w rd (by simp [h1]) a1 a2 a3 (by omega) hb0 hb1).mono ?_
    rintro e w' ⟨rfl, rfl⟩
    exact ⟨v, rfl, by simpa using LsAt.setRd own hrb _, setRd_rd rd _, Kl.setRd v w _⟩


theorem end_anyL (base rb ro : Nat) (s : RS) (v : Value) (L : List Int) (w : World) (rd : RdAt w rb ro s) (own : LsAt w base v L) (hL : L.length ≤ 1000000000) (hrb : rb < base) (hb : base ≤ w.heap.size) :
    Calls Tryd.prog 38 #[.pointer (some ⟨rb, ro, none⟩), v] w fun e w' => ∃ v', e = .returned v' ∧ LsAt w' base v' (L ++ s.fin.2) ∧ RdAt w' rb ro s.fin.1 ∧ Kl v v' rb ro w w' := by
  by_cases h : s.m = 0
  · have e : s.fin = (s, []) := by simp [RS.fin, h]
    rw [e]
    refine (end_zero rb ro s v w rd (by simp [h])).mono ?_
    rintro e w' ⟨rfl, rfl⟩
    exact ⟨v, rfl, by simpa using own, rd, Kl.refl _ _ _ _⟩
  · have e : s.fin = (.zero, [65533]) := by simp [RS.fin, h]
    rw [e]
    exact end_moreL base rb ro s v L w rd (by simp [h]) own hL hrb hb


/-- begin: a byte below 128 -/
theorem beg_lowL (base rb ro : Nat) (b : Int) (v : Value) (L : List Int) (w : World) (hb0 : 0 ≤ b) (hb1 : b < 128)
    (own : LsAt w base v L) (hL : L.length ≤ 1000000000) (hb : base ≤ w.heap.size) (hrb : rb < base) :
    Calls Tryd.prog 53 #[.pointer (some ⟨rb, ro, none⟩), v, .int .u8 b] w fun e w' => ∃ v', e = .returned v' ∧ LsAt w' base v' (L ++ [b]) ∧ Below base w w' ∧ Kl v v' rb ro w w' := by
  go_enter Tryd.func53, Tryd.ntmps53
  go_wp2_with (at_builtin; refine wp_app1s w rfl _ _ rfl base _ L _ rfl ?c1 _ ?c2 rfl hL ?c3 ?_)
  case c1 => exact own
  case c2 => rfl
  case c3 => exact hb
  intro v' w1 own1 hbel hgr hown
  go_wp2_with fail
  go_ret
  exact ⟨_, rfl, own1, hbel, Kl.grown hgr hown (own_ne own hrb) (by omega)⟩


theorem set_allocL {w wr : World} {base rb ro : Nat} {v : Value} {L : List Int} {s0 : RS} (o : Obj) (s : RS) (own : LsAt wr base v L) (rd : RdAt wr rb ro s0) (hbel : Below w.heap.size w wr) (hb0 : base ≤ w.heap.size) (hrb : rb < base) (hb : base ≤ wr.heap.size) :
    LsAt ((World.setRd wr rb ro s).alloc o) base v L ∧ RdAt ((World.setRd wr rb ro s).alloc o) rb ro s ∧ Kl v v rb ro w ((World.setRd wr rb ro s).alloc o) := by
  obtain ⟨h1, h2, _⟩ := set_alloc (w := w) o s own rd (hbel.mono hb0) hrb hb
  refine ⟨h1, h2, ((Kl.below hbel (by omega)).trans (Kl.setRd v wr s)).trans (Kl.below ((Below.refl _ _).alloc (Nat.le_refl _) o) ?_)⟩
  have := (Kl.setRd v (rb := rb) (ro := ro) wr s).size
  omega
set_option maxHeartbeats 1000000 in
theorem beg_highL (base rb ro : Nat) (s : RS) (b : Int) (v : Value) (L : List Int) (w : World) (rd : RdAt w rb ro s) (hb0 : 128 ≤ b) (hb1 : b < 256) (hle : Leads w) (hrb : rb < base)
    (own : LsAt w base v L) (hL : L.length ≤ 1000000000) (hb : base ≤ w.heap.size) :
    Calls Tryd.prog 53 #[.pointer (some ⟨rb, ro, none⟩), v, .int .u8 b] w fun e w' => ∃ v', e = .returned v' ∧ LsAt w' base v' (L ++ (s.beg b).2) ∧ RdAt w' rb ro (s.beg b).1 ∧ Kl v v' rb ro w w' := by
  obtain ⟨lt, lfr, hleads⟩ := hle
  have HL : Hid (w.heap[1]? = some (.cells leadsArr lt lfr)) := hleads
  clear hleads
  have hd : decide (b < 128) = false := by simp; omega
  go_enter Tryd.func53, Tryd.ntmps53
  go_wp2_with (refine wpList_load_row rfl 128 _ rfl 1 rfl lt leadsArr lfr _ HL.out Tryd.underlying128 rfl info74 ?_)
  go_loopw [17] (fun i wr => ∃ k : Nat, k ≤ 8 ∧ i = .int .i64 k ∧ Below w.heap.size w wr ∧ noL k b) (fun i _ => 8 - (intOf i).toNat)
  case atStart => exact ⟨0, Nat.zero_le _, rfl, Below.refl _ _, by unfold noL; simp; omega⟩
  case round =>
    obtain ⟨k, hk, rfl, hbel, hno⟩ := hrel
    by_cases hlt : k < 8
    · obtain ⟨f, l, mk, mo, lo, hi, q, hidx, hq, hq0, hq1, hhit, hm1, hm2⟩ := row_k k hlt b hb0 hb1 hno
      have Hhit : Hid _ := hhit
      have Hm1 : Hid _ := hm1
      have Hm2 : Hid _ := hm2
      clear hhit hm1 hm2
      have rd' : RdAt wr rb ro s := rd.kept (hbel.block rb (by omega))
      have own' : LsAt wr base v L := own.below hbel
      have c0 := rd'.c0
      have c1 := rd'.c1
      have c2 := rd'.c2
      have c3 := rd'.c3
      have f0 := rd'.f 0 (by omega)
      have f1 := rd'.f 1 (by omega)
      have f2 := rd'.f 2 (by omega)
      have f3 := rd'.f 3 (by omega)
      simp only [Nat.add_zero] at f0
      have hsz : rb < wr.heap.size := by have := hbel.size; omega
      go_wp2_with fail
      · have hf : f ≤ b := by assumption
        have hl : b ≤ l := by assumption
        have e : s.beg b = (⟨mo, lo, hi, q⟩, []) := by simp [RS.beg, Hhit.out hf hl, show ¬ b < 128 by omega]
        have R := set_allocL (.cells #[.int .u8 f, .int .u8 l, .int .u8 mk, .int .i64 mo, .int .u8 lo, .int .u8 hi] 127) ⟨mo, lo, hi, q⟩ own' rd' hbel hb hrb (by have := hbel.size; omega)
        clear c0 c1 c2 c3 f0 f1 f2 f3
        go_ret
        rw [e]
        exact ⟨v, rfl, by rw [List.append_nil]; exact R.1, R.2.1, R.2.2⟩
      · have hl : l < b := by assumption
        go_roundw
        case rel => exact ⟨k + 1, by omega, by go_num, hbel.alloc hbel.size _, Hm2.out hl⟩
        case measure => simp [intOf]; omega
      · have hl : b < f := by have h : ¬ f ≤ b := by assumption
                              omega
        go_roundw
        case rel => exact ⟨k + 1, by omega, by go_num, hbel.alloc hbel.size _, Hm1.out hl⟩
        case measure => simp [intOf]; omega
    · have hk8 : k = 8 := by omega
      subst hk8
      have own' : LsAt wr base v L := own.below hbel
      have rd' : RdAt wr rb ro s := rd.kept (hbel.block rb (by omega))
      have e : s.beg b = (s, [65533]) := by simp [RS.beg, no_lead b hno, show ¬ b < 128 by omega]
      have He : Hid (s.beg b = (s, [65533])) := e
      clear e
      go_wp2_with (at_builtin; refine wp_app1s wr rfl _ _ rfl base _ L _ rfl ?c1 _ ?c2 rfl hL ?c3 ?_)
      case c1 => exact own'
      case c2 => rfl
      case c3 => have := hbel.size; omega
      intro v' w1 own1 hbel1 hgr hown
      have rd1 : RdAt w1 rb ro s := rd'.kept (hbel1.block rb hrb)
      have k1 : Kl v v' rb ro w w1 := (Kl.below hbel (by omega)).trans (Kl.grown hgr hown (own_ne own' hrb) (by have := hbel.size; omega))
      go_wp2_with fail
      go_ret
      rw [He.out]
      exact ⟨_, rfl, own1, rd1, k1⟩


theorem beg_anyL (base rb ro : Nat) (s : RS) (b : Int) (v : Value) (L : List Int) (w : World) (rd : RdAt w rb ro s) (hb0 : 0 ≤ b) (hb1 : b < 256) (hle : Leads w) (hrb : rb < base)
    (own : LsAt w base v L) (hL : L.length ≤ 1000000000) (hb : base ≤ w.heap.size) :
    Calls Tryd.prog 53 #[.pointer (some ⟨rb, ro, none⟩), v, .int .u8 b] w fun e w' => ∃ v', e = .returned v' ∧ LsAt w' base v' (L ++ (s.beg b).2) ∧ RdAt w' rb ro (s.beg b).1 ∧ Kl v v' rb ro w w' := by
  by_cases h : b < 128
  · refine (beg_lowL base rb ro b v L w hb0 h own hL hb hrb).mono ?_
    rintro e w' ⟨v', rfl, own1, hbel, kl⟩
    have e : s.beg b = (s, [b]) := by simp [RS.beg, h]
    rw [e]
    exact ⟨v', rfl, own1, rd.kept (hbel.block rb hrb), kl⟩
  · exact beg_highL base rb ro s b v L w rd (by omega) hb1 hle hrb own hL hb


set_option maxHeartbeats 1000000 in
theorem take_anyL (base rb ro : Nat) (s : RS) (b : Int) (v : Value) (L : List Int) (w : World) (rd : RdAt w rb ro s) (hs : s.ok) (hb0 : 0 ≤ b) (hb1 : b < 256) (hle : Leads w) (hr1 : 1 < rb) (hrb : rb < base)
    (own : LsAt w base v L) (hL : L.length ≤ 900000000) (hb : base ≤ w.heap.size) :
    Calls Tryd.prog 37 #[.pointer (some ⟨rb, ro, none⟩), v, .int .u8 b] w fun e w' => ∃ v', e = .returned v' ∧ LsAt w' base v' (L ++ (s.take b).2) ∧ RdAt w' rb ro (s.take b).1 ∧ Kl v v' rb ro w w' := by
  have c0 := rd.c0
  have c1 := rd.c1
  have c2 := rd.c2
  by_cases hm : s.m = 0
  · have e : s.take b = s.beg b := by simp [RS.take, hm]
    rw [e]
    have hm' : (s.m == 0) = true := by simp [hm]
    clear e hm
    go_enter Tryd.func37, Tryd.ntmps37
    go_wp2_with (go_at_call 53; refine (beg_anyL base rb ro s b v L _ rd hb0 hb1 hle hrb own (by omega) hb).mono ?_; rintro e w1 ⟨v1, rfl, own1, rd1, k1⟩)
    go_ret
    exact ⟨v1, rfl, own1, rd1, k1⟩
  · have hm' : (s.m == 0) = false := by simp [hm]
    by_cases hlo : b < s.lo ∨ s.hi < b
    · have e : s.take b = ((s.fin.1.beg b).1, s.fin.2 ++ (s.fin.1.beg b).2) := by simp [RS.take, hm, hlo]
      have hfl : (L ++ s.fin.2).length ≤ 1000000000 := by
        have : s.fin.2.length ≤ 1 := by unfold RS.fin; split <;> simp
        simp; omega
      rw [e]
      clear e hm
      by_cases hlo1 : b < s.lo
      · clear hlo
        go_enter Tryd.func37, Tryd.ntmps37
        go_wp2_with fail
        refine (end_anyL base rb ro s v L _ rd own (by omega) hrb hb).mono ?_
        rintro e w1 ⟨v1, rfl, own1, rd1, k1⟩
        have hb' : base ≤ w1.heap.size := by have := k1.size; omega
        have hle1 : Leads w1 := hle.kl k1 (by omega) (own_ne own (by omega)) (by omega)
        go_wp2_with fail
        refine (beg_anyL base rb ro s.fin.1 b v1 (L ++ s.fin.2) _ rd1 hb0 hb1 hle1 hrb own1 hfl hb').mono ?_
        rintro e w2 ⟨v2, rfl, own2, rd2, k2⟩
        go_wp2_with fail
        go_ret
        exact ⟨v2, rfl, by simpa using own2, rd2, k1.trans k2⟩
      · have hhi : s.hi < b := by omega
        clear hlo
        go_enter Tryd.func37, Tryd.ntmps37
        go_wp2_with fail
        refine (end_anyL base rb ro s v L _ rd own (by omega) hrb hb).mono ?_
        rintro e w1 ⟨v1, rfl, own1, rd1, k1⟩
        have hb' : base ≤ w1.heap.size := by have := k1.size; omega
        have hle1 : Leads w1 := hle.kl k1 (by omega) (own_ne own (by omega)) (by omega)
        go_wp2_with fail
        refine (beg_anyL base rb ro s.fin.1 b v1 (L ++ s.fin.2) _ rd1 hb0 hb1 hle1 hrb own1 hfl hb').mono ?_
        rintro e w2 ⟨v2, rfl, own2, rd2, k2⟩
        go_wp2_with fail
        go_ret
        exact ⟨v2, rfl, by simpa using own2, rd2, k1.trans k2⟩
    · have e : s.take b = s.join b := by simp only [RS.take, hm, hlo, if_false]
      rw [e]
      have h1 : ¬ b < s.lo := by omega
      have h2 : ¬ s.hi < b := by omega
      clear e hlo
      have Hm : Hid (s.m ≠ 0) := hm
      clear hm
      go_enter Tryd.func37, Tryd.ntmps37
      go_wp2_with fail
      refine (join_anyL base rb ro s b v L _ rd hs Hm.out hb0 hb1 own (by omega) hrb hb).mono ?_
      rintro e w1 ⟨v1, rfl, own1, rd1, k1⟩
      go_wp2_with fail
      go_ret
      exact ⟨v1, rfl, own1, rd1, k1⟩


end Go.Proofs.YtheibfffilomcaaDoor
