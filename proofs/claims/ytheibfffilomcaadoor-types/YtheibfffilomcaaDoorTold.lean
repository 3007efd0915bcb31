/- The walk of Told. -/
import Derived.Test.YtheibfffilomcaaDoorWd
import Derived.Deep.QuietTactic
import Derived.BigQuiet
namespace Go.Proofs.YtheibfffilomcaaDoor
open Go.RowKit

/-- The character that Told makes of a raw number. -/
def toldC (z : Int) : Int := if 55296 ≤ pickN z 1114112 ∧ pickN z 1114112 < 57344 then 63 else pickN z 1114112
theorem toldC_char (z : Int) : isChar (toldC z) := by
  have h := pickN_range z 1114112 (by omega)
  unfold toldC isChar
  split <;> omega
def chs (zs : List Int) (k : Nat) : List Int := (zs.take k).map toldC
theorem chs_char (zs : List Int) (k : Nat) : ∀ c ∈ chs zs k, isChar c := by
  intro c hc
  obtain ⟨z, _, rfl⟩ := List.mem_map.1 hc
  exact toldC_char z
theorem chs_length (zs : List Int) (k : Nat) (h : k ≤ zs.length) : (chs zs k).length = k := by
  unfold chs; rw [List.length_map, List.length_take]; omega
theorem chs_succ (zs : List Int) (k : Nat) (h : k < zs.length) : chs zs (k + 1) = chs zs k ++ [toldC (zs.getD k 0)] := by
  unfold chs
  rw [List.take_succ_eq_append_getElem h, List.map_append]
  simp [List.getD, List.getElem?_eq_getElem h]
theorem utfs_snoc (l : List Int) (c : Int) : utfs (l ++ [c]) = utfs l ++ utfN c := by unfold utfs; simp
theorem odds_snoc (b : Int) (l : List Int) (c : Int) : odds b (l ++ [c]) = odds b l ++ [b] ++ utfN c := by unfold odds; simp

/-- What a list of numbers reads as. -/
theorem LsAt.form {w : World} {base : Nat} {v : Value} {L : List Int} (h : LsAt w base v L) :
    ∃ ao cap, v = .slice ao L.length cap ∧ ∀ j x, L[j]? = some x → ∃ g, ao = some ⟨g, 0, none⟩ ∧ w.cell? ⟨g, j, none⟩ = some (.int .i64 x) := by
  obtain ⟨h1, h2⟩ := h
  rcases h2 with ⟨rfl, h0⟩ | ⟨g, cap, cur, rfl, _, hg, hn, _, hcs, htake⟩
  · refine ⟨none, 0, by rw [h0], fun j x hj => ?_⟩
    have : L = [] := List.eq_nil_of_length_eq_zero h0
    subst this; simp at hj
  · refine ⟨_, cap, rfl, fun j x hj => ⟨g, rfl, ?_⟩⟩
    rw [cell_of_row _ _ _ _ _ _ hg]
    have hj' : (L.map (Value.int .i64))[j]? = some (.int .i64 x) := by simp [hj]
    rw [← htake, List.getElem?_take] at hj'
    split at hj'
    · simpa using hj'
    · cases hj'

theorem utf_some (c : Int) (w : World) (h0 : 0 ≤ c) (h1 : c < 1114112) :
    Calls Tryd.prog 16 #[.int .i64 c] w fun e w' => ∃ U : ByteArray, e = .returned (.string U) ∧ Hid (bl U = utfN c) ∧ U.size ≤ 4 ∧ Below w.heap.size w w' := by
  refine (utf_any c w h0 h1).mono ?_
  rintro e w' ⟨rfl, hb⟩
  exact ⟨_, rfl, bl_nums _ (utfN_byte c h0 h1), by rw [nums_size]; exact utfN_length c, hb⟩
theorem one_some (x : Int) (h0 : 0 ≤ x) (h1 : x < 256) : bl (strOfNums [x]) = [x] := bl_nums [x] (by simp; omega)

theorem told_s {S U : ByteArray} {L : List Int} {c : Int} (h : bl S = utfs L) (hu : bl U = utfN c) : bl (S ++ U) = utfs (L ++ [c]) := by rw [bl_append, utfs_snoc, h, hu]
theorem told_t {T O U : ByteArray} {L : List Int} {b c : Int} (h : bl T = odds b L) (ho : bl O = [b]) (hu : bl U = utfN c) : bl (T ++ O ++ U) = odds b (L ++ [c]) := by rw [bl_append, bl_append, odds_snoc, h, ho, hu]

set_option maxHeartbeats 1000000 in
theorem told_walk (ao : Option Addr) (len cap : Nat) (zs : List Int) (odd : Int) (w : World) (hle : Leads w) (hlen : len ≤ 1048576) (hzs : len ≤ zs.length) (ho0 : -9223372036854775808 ≤ odd) (ho1 : odd ≤ 9223372036854775807)
    (hz : ∀ j, -9223372036854775808 ≤ zs.getD j 0 ∧ zs.getD j 0 ≤ 9223372036854775807)
    (hc : ∀ j, j < len → ∃ b off, ao = some ⟨b, off, none⟩ ∧ b < w.heap.size ∧ w.cell? ⟨b, off + j, none⟩ = some (.int .i64 (zs.getD j 0))) :
    Calls Tryd.prog 5 #[.slice ao len cap, .int .i64 odd] w fun e w' => e = .returned (.bool true) ∧ Below w.heap.size w w' := by
  have k1 := conv1
  have hp := pickN_range odd 64 (by omega)
  go_enter Tryd.func5, Tryd.ntmps5
  go_wp2_with fail
  refine (pick_any odd 64 _ ho0 ho1 (by omega) (by omega)).mono ?_
  rintro e w0 ⟨rfl, rfl⟩
  go_wp2_with fail
  clear k1
  obtain ⟨O, hO⟩ : ∃ O, O = strOfNums [128 + pickN odd 64] := ⟨_, rfl⟩
  rw [← hO]
  have HO : Hid (bl O = [128 + pickN odd 64]) := by rw [hO]; exact one_some _ (by omega) (by omega)
  have hO1 : O.size ≤ 1 := by rw [hO, nums_size]; simp
  clear hO
  go_loopw [5, 6, 8, 9] (fun s t v i wr => ∃ (k : Nat) (S T : ByteArray), k ≤ len ∧ i = .int .i64 k ∧ s = .string S ∧ t = .string T ∧ Hid (bl S = utfs (chs zs k)) ∧ Hid (bl T = odds (128 + pickN odd 64) (chs zs k)) ∧ S.size ≤ 4 * k ∧ T.size ≤ 5 * k ∧
      LsAt wr w.heap.size v (chs zs k) ∧ Below w.heap.size w wr) (fun _ _ _ i _ => len - (intOf i).toNat)
  case atStart => exact ⟨0, _, _, Nat.zero_le _, rfl, rfl, rfl, rfl, rfl, Nat.le_refl _, Nat.le_refl _, World.ownsRow_nil _ _ _ _, (Below.refl _ _).alloc (Nat.le_refl _) _⟩
  case round =>
    obtain ⟨k, S, T, hk, rfl, rfl, rfl, HS, HT, hS, hT, own, hbel⟩ := hrel
    have hln := chs_length zs k (by omega)
    have HLn : Hid ((chs zs k).length = k) := hln
    have hln2 : (chs zs k).length ≤ 1000000000 := by omega
    clear hln
    by_cases hlt : k < len
    · obtain ⟨b, off, rfl, hbb, hcell⟩ := hc k hlt
      have hcr : wr.cell? ⟨b, off + k, none⟩ = some (.int .i64 (zs.getD k 0)) := (hbel.cell hbb).trans hcell
      clear hcell
      have hzk := hz k
      have HC : Hid (chs zs (k + 1) = chs zs k ++ [toldC (zs.getD k 0)]) := chs_succ zs k (by omega)
      clear hz hc
      generalize zs.getD k 0 = z at *
      have hpz := pickN_range z 1114112 (by omega)
      go_wp2_with fail
      refine (pick_any z 1114112 _ hzk.1 hzk.2 (by omega) (by omega)).mono ?_
      rintro e w0 ⟨rfl, rfl⟩
      by_cases hs1 : 55296 ≤ pickN z 1114112
      · by_cases hs2 : pickN z 1114112 < 57344
        · have HC' : Hid (chs zs (k + 1) = chs zs k ++ [63]) := by
            have e : toldC z = 63 := by unfold toldC; rw [if_pos ⟨hs1, hs2⟩]
            rw [e] at HC; exact HC
          clear HC
          go_wp2_with (at_builtin; refine wp_app1 wr rfl _ _ rfl w.heap.size _ (chs zs k) _ rfl ?x1 _ ?x2 rfl ?x3 ?x4 ?_)
          case x1 => exact own
          case x2 => rfl
          case x3 => exact hln2
          case x4 => exact hbel.size
          intro v1 w1 own1 hb1
          have hbel1 : Below w.heap.size w w1 := hbel.trans hb1
          clear own hcr hb1
          go_wp2_with fail
          refine (utf_some _ _ (by omega) (by omega)).mono ?_
          rintro e w2 ⟨U, rfl, HU, hU, hb2⟩
          have own2 := own1.below hb2
          have hbel2 : Below w.heap.size w w2 := hbel1.trans (hb2.mono hbel1.size)
          clear own1 hb2 hbel1
          go_wp2_with fail
          refine (utf_some _ _ (by omega) (by omega)).mono ?_
          rintro e w3 ⟨V, rfl, HV, hV, hb3⟩
          have own3 := own2.below hb3
          have hbel3 : Below w.heap.size w w3 := hbel2.trans (hb3.mono hbel2.size)
          clear own2 hb3 hbel2
          go_wp2_with fail
          go_roundw
          case rel =>
            refine ⟨k + 1, S ++ U, T ++ O ++ V, by omega, by go_num, rfl, rfl, ?_, ?_, ?_, ?_, ?_, hbel3⟩
            · rw [HC'.out]; exact told_s HS.out HU.out
            · rw [HC'.out]; exact told_t HT.out HO.out HV.out
            · rw [ByteArray.size_append]; omega
            · rw [ByteArray.size_append, ByteArray.size_append]; omega
            · rw [HC'.out]; exact own3
          case measure => simp [intOf]; omega
        · have HC' : Hid (chs zs (k + 1) = chs zs k ++ [pickN z 1114112]) := by
            have e : toldC z = pickN z 1114112 := by unfold toldC; rw [if_neg (by omega)]
            rw [e] at HC; exact HC
          clear HC
          go_wp2_with (at_builtin; refine wp_app1 wr rfl _ _ rfl w.heap.size _ (chs zs k) _ rfl ?y1 _ ?y2 rfl ?y3 ?y4 ?_)
          case y1 => exact own
          case y2 => rfl
          case y3 => exact hln2
          case y4 => exact hbel.size
          intro v1 w1 own1 hb1
          have hbel1 : Below w.heap.size w w1 := hbel.trans hb1
          clear own hcr hb1
          go_wp2_with fail
          refine (utf_some _ _ (by omega) (by omega)).mono ?_
          rintro e w2 ⟨U, rfl, HU, hU, hb2⟩
          have own2 := own1.below hb2
          have hbel2 : Below w.heap.size w w2 := hbel1.trans (hb2.mono hbel1.size)
          clear own1 hb2 hbel1
          go_wp2_with fail
          refine (utf_some _ _ (by omega) (by omega)).mono ?_
          rintro e w3 ⟨V, rfl, HV, hV, hb3⟩
          have own3 := own2.below hb3
          have hbel3 : Below w.heap.size w w3 := hbel2.trans (hb3.mono hbel2.size)
          clear own2 hb3 hbel2
          go_wp2_with fail
          go_roundw
          case rel =>
            refine ⟨k + 1, S ++ U, T ++ O ++ V, by omega, by go_num, rfl, rfl, ?_, ?_, ?_, ?_, ?_, hbel3⟩
            · rw [HC'.out]; exact told_s HS.out HU.out
            · rw [HC'.out]; exact told_t HT.out HO.out HV.out
            · rw [ByteArray.size_append]; omega
            · rw [ByteArray.size_append, ByteArray.size_append]; omega
            · rw [HC'.out]; exact own3
          case measure => simp [intOf]; omega
      · have HC' : Hid (chs zs (k + 1) = chs zs k ++ [pickN z 1114112]) := by
          have e : toldC z = pickN z 1114112 := by unfold toldC; rw [if_neg (by omega)]
          rw [e] at HC; exact HC
        clear HC
        have hd1 : decide (55296 ≤ pickN z 1114112) = false := by simp; omega
        go_wp2_with (at_builtin; refine wp_app1 wr rfl _ _ rfl w.heap.size _ (chs zs k) _ rfl ?z1 _ ?z2 rfl ?z3 ?z4 ?_)
        case z1 => exact own
        case z2 => rfl
        case z3 => exact hln2
        case z4 => exact hbel.size
        intro v1 w1 own1 hb1
        have hbel1 : Below w.heap.size w w1 := hbel.trans hb1
        clear own hcr hb1
        go_wp2_with fail
        refine (utf_some _ _ (by omega) (by omega)).mono ?_
        rintro e w2 ⟨U, rfl, HU, hU, hb2⟩
        have own2 := own1.below hb2
        have hbel2 : Below w.heap.size w w2 := hbel1.trans (hb2.mono hbel1.size)
        clear own1 hb2 hbel1
        go_wp2_with fail
        refine (utf_some _ _ (by omega) (by omega)).mono ?_
        rintro e w3 ⟨V, rfl, HV, hV, hb3⟩
        have own3 := own2.below hb3
        have hbel3 : Below w.heap.size w w3 := hbel2.trans (hb3.mono hbel2.size)
        clear own2 hb3 hbel2
        go_wp2_with fail
        go_roundw
        case rel =>
          refine ⟨k + 1, S ++ U, T ++ O ++ V, by omega, by go_num, rfl, rfl, ?_, ?_, ?_, ?_, ?_, hbel3⟩
          · rw [HC'.out]; exact told_s HS.out HU.out
          · rw [HC'.out]; exact told_t HT.out HO.out HV.out
          · rw [ByteArray.size_append]; omega
          · rw [ByteArray.size_append, ByteArray.size_append]; omega
          · rw [HC'.out]; exact own3
        case measure => simp [intOf]; omega
    · have hkl : k = len := by omega
      subst hkl
      have hle1 : Leads wr := hle.kept (hbel.block 1 hle.lt)
      go_wp2_with fail
      refine (runes_any S _ hle1 (by omega)).mono ?_
      rintro e w1 ⟨v1, rfl, own1, hb1⟩
      go_wp2_with fail
      have hle2 : Leads w1 := hle1.kept (hb1.block 1 hle1.lt)
      refine (runes_any T _ hle2 (by omega)).mono ?_
      rintro e w2 ⟨v2, rfl, own2, hb2⟩
      rw [HS.out, decode_utfs _ (chs_char zs k)] at own1
      rw [HT.out, decode_odds _ (by omega) (by omega) _ (chs_char zs k)] at own2
      have own1' := own1.below hb2
      have own' := (own.below hb1).below hb2
      have hbw : Below w.heap.size w w2 := (hbel.trans (hb1.mono hbel.size)).trans (hb2.mono (Nat.le_trans hbel.size hb1.size))
      have hsl := spoilt_length (chs zs k)
      have e1 : ∀ j, j < k → (chs zs k)[j]? = some ((chs zs k).getD j 0) := fun j hj => by
        have hl := HLn.out
        simp [List.getD, List.getElem?_eq_getElem (show j < (chs zs k).length by omega)]
      have e2 : ∀ j, j < k → (spoilt (chs zs k))[2 * j]? = some 65533 := fun j hj => spoilt_even _ _ (by rw [HLn.out]; exact hj)
      have e3 : ∀ j, j < k → (spoilt (chs zs k))[2 * j + 1]? = some ((chs zs k).getD j 0) := fun j hj => (spoilt_odd _ _ (by rw [HLn.out]; exact hj)).trans (e1 j hj)
      obtain ⟨a1, p1, f1, g1⟩ := own1'.form
      obtain ⟨a2, p2, f2, g2⟩ := own2.form
      obtain ⟨a3, p3, f3, g3⟩ := own'.form
      rw [hsl] at f2
      rw [HLn.out] at f1 f2 f3
      rw [f1, f2, f3]
      have q1 : ∀ j, j < k → ∃ g, a1 = some ⟨g, 0, none⟩ ∧ w2.cell? ⟨g, j, none⟩ = some (.int .i64 ((chs zs k).getD j 0)) := fun j hj => g1 j _ (e1 j hj)
      have q2 : ∀ j, j < k → ∃ g, a2 = some ⟨g, 0, none⟩ ∧ w2.cell? ⟨g, 2 * j, none⟩ = some (.int .i64 65533) := fun j hj => g2 _ _ (e2 j hj)
      have q3 : ∀ j, j < k → ∃ g, a2 = some ⟨g, 0, none⟩ ∧ w2.cell? ⟨g, 2 * j + 1, none⟩ = some (.int .i64 ((chs zs k).getD j 0)) := fun j hj => g2 _ _ (e3 j hj)
      have q4 : ∀ j, j < k → ∃ g, a3 = some ⟨g, 0, none⟩ ∧ w2.cell? ⟨g, j, none⟩ = some (.int .i64 ((chs zs k).getD j 0)) := fun j hj => g3 j _ (e1 j hj)
      clear f1 f2 f3 g1 g2 g3 e1 e2 e3 hsl own own1 own2 own1' own' hb1 hb2 hle1 hle2 hc hz
      generalize chs zs k = C at *
      go_wp2_with fail
      go_loopw [13] (fun i wx => ∃ j : Nat, j ≤ k ∧ i = .int .i64 j ∧ Below w2.heap.size w2 wx) (fun i _ => k - (intOf i).toNat)
      case atStart => exact ⟨0, Nat.zero_le _, rfl, Below.refl _ _⟩
      case round =>
        obtain ⟨j, hj, rfl, hbx⟩ := hrel
        by_cases hjk : j < k
        · obtain ⟨g1, rfl, d1⟩ := q1 j hjk
          obtain ⟨g2, rfl, d2⟩ := q2 j hjk
          obtain ⟨g2', e2, d3⟩ := q3 j hjk
          obtain ⟨g4, rfl, d4⟩ := q4 j hjk
          simp only [Option.some.injEq, Addr.mk.injEq, and_true] at e2
          subst e2
          clear q1 q2 q3 q4
          replace d1 := cell_later hbx d1
          replace d2 := cell_later hbx d2
          replace d3 := cell_later hbx d3
          replace d4 := cell_later hbx d4
          generalize C.getD j 0 = x at *
          have hx : (x != x) = false := by simp
          have hx2 : ((65533 : Int) != 65533) = false := by decide
          have i1 : (j : Int) < (k : Int) := by omega
          have i2 : 2 * (j : Int) < 2 * (k : Int) := by omega
          have i3 : 2 * (j : Int) + 1 < 2 * (k : Int) := by omega
          go_wp2_with fail
          go_quiet (fail)
          go_wp2_with fail
          go_roundw
          case rel => exact ⟨j + 1, by omega, by go_num, below_drewN hbx _⟩
          case measure => simp [intOf]; omega
        · go_wp2_with fail
          go_ret
          exact ⟨rfl, hbw.trans (hbx.mono hbw.size)⟩

end Go.Proofs.YtheibfffilomcaaDoor
