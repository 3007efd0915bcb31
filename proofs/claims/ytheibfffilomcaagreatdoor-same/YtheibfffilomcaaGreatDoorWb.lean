/- The walks of the reader of bytes: a byte that begins a character; a byte taken. -/
import Derived.Test.YtheibfffilomcaaGreatDoorWa
namespace Go.Proofs.YtheibfffilomcaaGreatDoor
open Go.RowKit

theorem set_alloc {w wr : World} {base rb ro : Nat} {v : Value} {L : List Int} {s0 : RS} (o : Obj) (s : RS) (own : LsAt wr base v L) (rd : RdAt wr rb ro s0) (hbel : Below base w wr) (hrb : rb < base) (hb : base ≤ wr.heap.size) :
    LsAt ((World.setRd wr rb ro s).alloc o) base v L ∧ RdAt ((World.setRd wr rb ro s).alloc o) rb ro s ∧ Kp base rb ro w ((World.setRd wr rb ro s).alloc o) := by
  have hz : (World.setRd wr rb ro s).heap.size = wr.heap.size := by simp [World.setRd, World.setCell]
  have hbl : Below base (World.setRd wr rb ro s) ((World.setRd wr rb ro s).alloc o) := (Below.refl _ _).alloc (by omega) o
  exact ⟨World.ownsRow.alloc (LsAt.setRd own hrb s) o, (setRd_rd rd s).kept (hbl.block rb hrb), ((Kp.of_below hbel hrb).trans (setRd_kp wr s)).trans (Kp.of_below hbl hrb)⟩

set_option maxHeartbeats 1000000 in
theorem beg_high (base rb ro : Nat) (s : RS) (b : Int) (v : Value) (L : List Int) (w : World) (rd : RdAt w rb ro s) (hb0 : 128 ≤ b) (hb1 : b < 256) (hle : Leads w) (hrb : rb < base)
    (own : LsAt w base v L) (hL : L.length ≤ 1000000000) (hb : base ≤ w.heap.size) :
    Calls Tryz.prog 50 #[.pointer (some ⟨rb, ro, none⟩), v, .int .u8 b] w fun e w' => ∃ v', e = .returned v' ∧ LsAt w' base v' (L ++ (s.beg b).2) ∧ RdAt w' rb ro (s.beg b).1 ∧ Kp base rb ro w w' := by
  obtain ⟨lt, lfr, hleads⟩ := hle
  have HL : Hid (w.heap[0]? = some (.cells leadsArr lt lfr)) := hleads
  clear hleads
  have hd : decide (b < 128) = false := by simp; omega
  go_enter Tryz.func50, Tryz.ntmps50
  go_wp2_with (refine wpList_load_row rfl 154 _ rfl 0 rfl lt leadsArr lfr _ HL.out Tryz.underlying154 rfl info74 ?_)
  go_loopw [17] (fun i wr => ∃ k : Nat, k ≤ 8 ∧ i = .int .i64 k ∧ Below w.heap.size w wr ∧ noL k b) (fun i _ => 8 - (intOf i).toNat)
  case atStart => exact ⟨0, Nat.zero_le _, rfl, Below.refl _ _, by unfold noL; simp; omega⟩
  case round =>
    obtain ⟨k, hk, rfl, hbel, hno⟩ := hrel
    by_cases hlt : k < 8
    · obtain ⟨f, l, mk, mo, lo, hi, q, hidx, hq, hq0, hq1, hhit, hm1, hm2⟩ := row_k k hlt b hb0 hb1 hno
      have Hhit : Hid _ := hhit
      have Hm1 : Hid _ := hm1
      have Hm2 : Hid _ := hm2
      clear hhit hm1 hm2
      have rd' : RdAt wr rb ro s := rd.kept (hbel.block rb (by omega))
      have own' : LsAt wr base v L := own.below hbel
      have c0 := rd'.c0
      have c1 := rd'.c1
      have c2 := rd'.c2
      have c3 := rd'.c3
      have f0 := rd'.f 0 (by omega)
      have f1 := rd'.f 1 (by omega)
      have f2 := rd'.f 2 (by omega)
      have f3 := rd'.f 3 (by omega)
      simp only [Nat.add_zero] at f0
      have hsz : rb < wr.heap.size := by have := hbel.size; omega
      go_wp2_with fail
      · have hf : f ≤ b := by assumption
        have hl : b ≤ l := by assumption
        have e : s.beg b = (⟨mo, lo, hi, q⟩, []) := by simp [RS.beg, Hhit.out hf hl, show ¬ b < 128 by omega]
        have R := set_alloc (.cells #[.int .u8 f, .int .u8 l, .int .u8 mk, .int .i64 mo, .int .u8 lo, .int .u8 hi] 153) ⟨mo, lo, hi, q⟩ own' rd' (hbel.mono hb) hrb (by have := hbel.size; omega)
        clear c0 c1 c2 c3 f0 f1 f2 f3
        go_ret
        rw [e]
        exact ⟨v, rfl, by rw [List.append_nil]; exact R.1, R.2.1, R.2.2⟩
      · have hl : l < b := by assumption
        go_roundw
        case rel => exact ⟨k + 1, by omega, by go_num, hbel.alloc hbel.size _, Hm2.out hl⟩
        case measure => simp [intOf]; omega
      · have hl : b < f := by have h : ¬ f ≤ b := by assumption
                              omega
        go_roundw
        case rel => exact ⟨k + 1, by omega, by go_num, hbel.alloc hbel.size _, Hm1.out hl⟩
        case measure => simp [intOf]; omega
    · have hk8 : k = 8 := by omega
      subst hk8
      have own' : LsAt wr base v L := own.below hbel
      have rd' : RdAt wr rb ro s := rd.kept (hbel.block rb (by omega))
      have e : s.beg b = (s, [65533]) := by simp [RS.beg, no_lead b hno, show ¬ b < 128 by omega]
      have He : Hid (s.beg b = (s, [65533])) := e
      clear e
      go_wp2_with (at_builtin; refine wp_app1 wr rfl _ _ rfl base _ L _ rfl ?c1 _ ?c2 rfl hL ?c3 ?_)
      case c1 => exact own'
      case c2 => rfl
      case c3 => have := hbel.size; omega
      intro v' w1 own1 hbel1
      have rd1 : RdAt w1 rb ro s := rd'.kept (hbel1.block rb hrb)
      have k1 : Kp base rb ro w w1 := Kp.of_below ((hbel.mono hb).trans hbel1) hrb
      go_wp2_with fail
      go_ret
      rw [He.out]
      exact ⟨_, rfl, own1, rd1, k1⟩

theorem beg_any (base rb ro : Nat) (s : RS) (b : Int) (v : Value) (L : List Int) (w : World) (rd : RdAt w rb ro s) (hb0 : 0 ≤ b) (hb1 : b < 256) (hle : Leads w) (hrb : rb < base)
    (own : LsAt w base v L) (hL : L.length ≤ 1000000000) (hb : base ≤ w.heap.size) :
    Calls Tryz.prog 50 #[.pointer (some ⟨rb, ro, none⟩), v, .int .u8 b] w fun e w' => ∃ v', e = .returned v' ∧ LsAt w' base v' (L ++ (s.beg b).2) ∧ RdAt w' rb ro (s.beg b).1 ∧ Kp base rb ro w w' := by
  by_cases h : b < 128
  · refine (beg_low base rb ro b v L w hb0 h own hL hb).mono ?_
    rintro e w' ⟨v', rfl, own1, hbel⟩
    have e : s.beg b = (s, [b]) := by simp [RS.beg, h]
    rw [e]
    exact ⟨v', rfl, own1, rd.kept (hbel.block rb hrb), Kp.of_below hbel hrb⟩
  · exact beg_high base rb ro s b v L w rd (by omega) hb1 hle hrb own hL hb

theorem Leads.kp {base rb ro : Nat} {w w' : World} (h : Leads w) (k : Kp base rb ro w w') (h1 : 0 < base) (hr : 0 ≠ rb) : Leads w' := h.kept (k.block 0 h1 hr)

set_option maxHeartbeats 1000000 in
theorem take_any (base rb ro : Nat) (s : RS) (b : Int) (v : Value) (L : List Int) (w : World) (rd : RdAt w rb ro s) (hs : s.ok) (hb0 : 0 ≤ b) (hb1 : b < 256) (hle : Leads w) (hr1 : 0 < rb) (hrb : rb < base)
    (own : LsAt w base v L) (hL : L.length ≤ 900000000) (hb : base ≤ w.heap.size) :
    Calls Tryz.prog 25 #[.pointer (some ⟨rb, ro, none⟩), v, .int .u8 b] w fun e w' => ∃ v', e = .returned v' ∧ LsAt w' base v' (L ++ (s.take b).2) ∧ RdAt w' rb ro (s.take b).1 ∧ Kp base rb ro w w' := by
  have c0 := rd.c0
  have c1 := rd.c1
  have c2 := rd.c2
  by_cases hm : s.m = 0
  · have e : s.take b = s.beg b := by simp [RS.take, hm]
    rw [e]
    have hm' : (s.m == 0) = true := by simp [hm]
    clear e hm
    go_enter Tryz.func25, Tryz.ntmps25
    go_wp2_with (go_at_call 50; refine (beg_any base rb ro s b v L _ rd hb0 hb1 hle hrb own (by omega) hb).mono ?_; rintro e w1 ⟨v1, rfl, own1, rd1, k1⟩)
    go_ret
    exact ⟨v1, rfl, own1, rd1, k1⟩
  · have hm' : (s.m == 0) = false := by simp [hm]
    by_cases hlo : b < s.lo ∨ s.hi < b
    · have e : s.take b = ((s.fin.1.beg b).1, s.fin.2 ++ (s.fin.1.beg b).2) := by simp [RS.take, hm, hlo]
      have hfl : (L ++ s.fin.2).length ≤ 1000000000 := by
        have : s.fin.2.length ≤ 1 := by unfold RS.fin; split <;> simp
        simp; omega
      rw [e]
      clear e hm
      by_cases hlo1 : b < s.lo
      · clear hlo
        go_enter Tryz.func25, Tryz.ntmps25
        go_wp2_with fail
        refine (end_any base rb ro s v L _ rd own (by omega) hrb hb).mono ?_
        rintro e w1 ⟨v1, rfl, own1, rd1, k1⟩
        have hb' : base ≤ w1.heap.size := by have := k1.size; omega
        have hle1 : Leads w1 := hle.kp k1 (by omega) (by omega)
        go_wp2_with fail
        refine (beg_any base rb ro s.fin.1 b v1 (L ++ s.fin.2) _ rd1 hb0 hb1 hle1 hrb own1 hfl hb').mono ?_
        rintro e w2 ⟨v2, rfl, own2, rd2, k2⟩
        go_wp2_with fail
        go_ret
        exact ⟨v2, rfl, by simpa using own2, rd2, k1.trans k2⟩
      · have hhi : s.hi < b := by omega
        clear hlo
        go_enter Tryz.func25, Tryz.ntmps25
        go_wp2_with fail
        refine (end_any base rb ro s v L _ rd own (by omega) hrb hb).mono ?_
        rintro e w1 ⟨v1, rfl, own1, rd1, k1⟩
        have hb' : base ≤ w1.heap.size := by have := k1.size; omega
        have hle1 : Leads w1 := hle.kp k1 (by omega) (by omega)
        go_wp2_with fail
        refine (beg_any base rb ro s.fin.1 b v1 (L ++ s.fin.2) _ rd1 hb0 hb1 hle1 hrb own1 hfl hb').mono ?_
        rintro e w2 ⟨v2, rfl, own2, rd2, k2⟩
        go_wp2_with fail
        go_ret
        exact ⟨v2, rfl, by simpa using own2, rd2, k1.trans k2⟩
    · have e : s.take b = s.join b := by simp only [RS.take, hm, hlo, if_false]
      rw [e]
      have h1 : ¬ b < s.lo := by omega
      have h2 : ¬ s.hi < b := by omega
      clear e hlo
      have Hm : Hid (s.m ≠ 0) := hm
      clear hm
      go_enter Tryz.func25, Tryz.ntmps25
      go_wp2_with fail
      refine (join_any base rb ro s b v L _ rd hs Hm.out hb0 hb1 own (by omega) hrb hb).mono ?_
      rintro e w1 ⟨v1, rfl, own1, rd1, k1⟩
      go_wp2_with fail
      go_ret
      exact ⟨v1, rfl, own1, rd1, k1⟩

end Go.Proofs.YtheibfffilomcaaGreatDoor
