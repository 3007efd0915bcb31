/- Qa Pq Qn Qq together. -/
import Derived.Test.YtheibfffilomcaaDoorYbM
import Derived.Test.YtheibfffilomcaaDoorTold
import Derived.Test.YtheibfffilomcaaDoorWf
import Derived.BigQuiet
import Derived.Deep.QuietTactic

/- What CAN, and ESC c behind it, do to a terminal: plain facts. -/
namespace Go.Proofs.YtheibfffilomcaaDoor

theorem byte_low (x : FS) (b : Int) (h : x.r.m = 0) (hb : b < 128) : x.byte b = x.char b := by
  unfold FS.byte RS.take RS.beg
  simp [h, hb, FS.chars]
theorem char_can (x : FS) : x.char 24 = ⟨x.r, .zero, x.t⟩ := by
  unfold FS.char MS.take
  simp
theorem char_esc (x : FS) : x.char 27 = ⟨x.r, ⟨1, 0, 0, z16⟩, x.t⟩ := by
  unfold FS.char MS.take
  simp
/-- Behind CAN nothing is begun, and the size is what it was. -/
theorem can_any (x : FS) (hlo : x.r.m ≠ 0 → 24 < x.r.lo) : (x.byte 24).r.m = 0 ∧ (x.byte 24).m = .zero ∧ (x.byte 24).t.dim = x.t.dim := by
  by_cases h : x.r.m = 0
  · rw [byte_low x 24 h (by omega), char_can]
    exact ⟨h, rfl, rfl⟩
  · have e : x.byte 24 = FS.char (FS.char ⟨.zero, x.m, x.t⟩ 65533) 24 := by
      unfold FS.byte RS.take RS.fin RS.beg
      simp [h, hlo h, FS.chars]
    rw [e, char_can]
    exact ⟨rfl, rfl, dim_char ⟨.zero, x.m, x.t⟩ 65533⟩
theorem can_reset (x : FS) (hlo : x.r.m ≠ 0 → 24 < x.r.lo) : (x.feed [24, 27, 99]).t = TS.fresh x.t.rows x.t.cols := by
  obtain ⟨h1, h2, h3⟩ := can_any x hlo
  show (((x.byte 24).byte 27).byte 99).t = _
  generalize x.byte 24 = y at *
  rw [byte_low y 27 h1 (by omega), char_esc, byte_low ⟨y.r, ⟨1, 0, 0, z16⟩, y.t⟩ 99 h1 (by omega)]
  have e1 : y.t.rows = x.t.rows := congrArg Prod.fst h3
  have e2 : y.t.cols = x.t.cols := congrArg Prod.snd h3
  rw [← e1, ← e2]
  rfl
/-- What goes on is 128 or more. -/
def RS.Low (s : RS) : Prop := s.m ≠ 0 → 128 ≤ s.lo
theorem lead_low {b : Int} {r : RS} (h : lead b = some r) : r.Low := by
  unfold lead at h
  repeat' split at h
  all_goals first | (cases h; done) | (cases h; intro _; dsimp only; omega)
theorem RS.Low.zero : RS.zero.Low := fun h => absurd rfl h
theorem RS.Low.beg {s : RS} (h : s.Low) (b : Int) : (s.beg b).1.Low := by
  unfold RS.beg
  split
  · exact h
  · split
    · rename_i r hr; exact lead_low hr
    · exact h
theorem RS.Low.take {s : RS} (h : s.Low) (b : Int) : (s.take b).1.Low := by
  unfold RS.take
  split
  · exact h.beg b
  · split
    · have hf : s.fin.1.Low := by
        unfold RS.fin
        split
        · exact h
        · exact RS.Low.zero
      exact hf.beg b
    · unfold RS.join
      split
      · exact RS.Low.zero
      · intro _; show (128 : Int) ≤ 128; omega
theorem chars_r (l : List Int) : ∀ x : FS, (x.chars l).r = x.r := by
  induction l with
  | nil => intro x; rfl
  | cons c l ih => intro x; exact ih _
theorem FS.low_feed (l : List Int) : ∀ x : FS, x.r.Low → (x.feed l).r.Low := by
  induction l with
  | nil => intro x h; exact h
  | cons b l ih =>
    intro x h
    refine ih (x.byte b) ?_
    unfold FS.byte
    rw [chars_r]
    exact h.take b
theorem feed_reset (r c : Nat) (l : List Int) : (((FS.fresh r c).feed l).feed [24, 27, 99]).t = TS.fresh r c := by
  have h := FS.low_feed l (FS.fresh r c) RS.Low.zero
  rw [can_reset _ (fun q => by have := h q; omega), fresh_rows, fresh_cols]
end Go.Proofs.YtheibfffilomcaaDoor

/- Sequences that do nothing: plain facts. -/
namespace Go.Proofs.YtheibfffilomcaaDoor

/-- A character is put. -/
theorem take_print {c : Int} (hc : 32 ≤ c ∧ c ≠ 127) : MS.zero.take c = (.zero, [1, c, 0, 0, 0] ++ z16, true) := by
  unfold MS.take
  rw [if_neg (by omega), if_neg (by omega), if_neg (by decide), if_neg (by omega), if_pos hc.2]
  rfl
theorem char_print (x : FS) (h : x.m = .zero) {c : Int} (hc : 32 ≤ c ∧ c ≠ 127) : x.char c = ⟨x.r, .zero, x.t.print c (widN c).toNat⟩ := by
  unfold FS.char
  rw [h, take_print hc]
  rfl

def idleL : List Int := [69, 70, 73, 78, 79, 81, 82, 85, 86, 87, 89, 90, 92, 93, 94, 95, 96, 97, 98, 99, 101, 105, 106, 107, 110, 111, 112, 113, 115, 116, 117, 118, 119, 120, 121, 122, 123, 124, 125, 126]
/-- Digits and semicolons. -/
def numB (c : Int) : Bool := decide (48 ≤ c ∧ c ≤ 59 ∧ c ≠ 58)

theorem feed_low (l : List Int) : ∀ x : FS, x.r.m = 0 → (∀ c ∈ l, c < 128) → x.feed l = x.chars l := by
  induction l with
  | nil => intro x _ _; rfl
  | cons c l ih =>
    intro x h hl
    show (x.byte c).feed l = (x.char c).chars l
    rw [byte_low x c h (hl c (by simp))]
    exact ih _ h (fun d hd => hl d (by simp [hd]))

/-- Numbers of a sequence: the mode is one of two, the mark stays. -/
theorem chars_num (l : List Int) : ∀ (x : FS), (x.m.md = 2 ∨ x.m.md = 3) → (∀ c ∈ l, numB c = true) → ∃ m, x.chars l = ⟨x.r, m, x.t⟩ ∧ (m.md = 2 ∨ m.md = 3) ∧ m.mr = x.m.mr := by
  induction l with
  | nil => intro x h _; exact ⟨x.m, rfl, h, rfl⟩
  | cons c l ih =>
    intro x h hl
    have hc : 48 ≤ c ∧ c ≤ 59 ∧ c ≠ 58 := of_decide_eq_true (hl c (by simp))
    have key : ∃ m, x.char c = ⟨x.r, m, x.t⟩ ∧ (m.md = 2 ∨ m.md = 3) ∧ m.mr = x.m.mr := by
      have hT : ∀ s : MS, s.md = 3 → ∃ m, MS.takeNum s c = (m, noEv, false) ∧ m.md = 3 ∧ m.mr = s.mr := by
        intro s hs
        unfold MS.takeNum
        by_cases h1 : 48 ≤ c ∧ c ≤ 57
        · rw [if_pos h1]
          refine ⟨_, rfl, ?_, ?_⟩
          · unfold MS.joinDig; split <;> exact hs
          · unfold MS.joinDig; split <;> rfl
        · rw [if_neg h1, if_pos (by omega)]
          exact ⟨_, rfl, hs, rfl⟩
      have hV : ∃ m, MS.takeVis x.m c = (m, noEv, false) ∧ m.md = 3 ∧ m.mr = x.m.mr := by
        unfold MS.takeVis
        have hmk : markN c = false := by unfold markN; simp; omega
        rcases h with h | h
        · rw [if_neg (by omega), if_neg (by omega), if_pos h, hmk]
          exact hT ⟨3, x.m.mr, x.m.ct, x.m.ps⟩ rfl
        · rw [if_neg (by omega), if_neg (by omega), if_neg (by omega), if_pos h]
          exact hT _ h
      obtain ⟨m, e, h1, h2⟩ := hV
      refine ⟨m, ?_, .inr h1, h2⟩
      unfold FS.char MS.take
      rw [if_neg (by omega), if_neg (by omega), if_neg (by omega), if_neg (by omega), if_pos (by omega), e]
      rfl
    obtain ⟨m, e, h1, h2⟩ := key
    show ∃ m, (x.char c).chars l = _ ∧ _
    rw [e]
    obtain ⟨m', e', h3, h4⟩ := ih ⟨x.r, m, x.t⟩ h1 (fun d hd => hl d (by simp [hd]))
    exact ⟨m', e', h3, h4.trans h2⟩
/-- The last byte of a sequence. -/
theorem char_final (x : FS) (h : x.m.md = 2 ∨ x.m.md = 3) {f : Int} (hf : 64 ≤ f ∧ f ≤ 126) : x.char f = ⟨x.r, .zero, x.t.sequence x.m.mr f x.m.ps (min x.m.ct 16).toNat⟩ := by
  have hV : MS.takeVis x.m f = (.zero, MS.seqEv x.m f, true) := by
    have hfin : finalN f = true := by unfold finalN; simp; omega
    have hmk : markN f = false := by unfold markN; simp; omega
    have hT : ∀ s : MS, s.takeNum f = (.zero, s.seqEv f, true) := by
      intro s
      unfold MS.takeNum
      rw [if_neg (by omega), if_neg (by omega), if_pos hfin]
    unfold MS.takeVis
    rcases h with h | h
    · rw [if_neg (by omega), if_neg (by omega), if_pos h, hmk]
      exact hT ⟨3, x.m.mr, x.m.ct, x.m.ps⟩
    · rw [if_neg (by omega), if_neg (by omega), if_neg (by omega), if_pos h]
      exact hT _
  unfold FS.char MS.take
  rw [if_neg (by omega), if_neg (by omega), if_neg (by omega), if_neg (by omega), if_pos (by omega), hV]
  rfl
theorem char_csi (x : FS) (h : x.m = .zero) : x.chars [27, 91] = ⟨x.r, MS.begNum ⟨2, 0, 0, z16⟩, x.t⟩ := by
  obtain ⟨r, m, t⟩ := x
  subst h
  rfl
theorem char_mark (x : FS) (h : x.m.md = 2) {k : Int} (hk : k = 60 ∨ k = 61 ∨ k = 62 ∨ k = 63) : x.char k = ⟨x.r, ⟨3, k, x.m.ct, x.m.ps⟩, x.t⟩ := by
  have hV : MS.takeVis x.m k = (⟨3, k, x.m.ct, x.m.ps⟩, noEv, false) := by
    have hmk : markN k = true := by unfold markN; rcases hk with rfl | rfl | rfl | rfl <;> rfl
    unfold MS.takeVis
    rw [if_neg (by omega), if_neg (by omega), if_pos h, if_pos hmk]
  unfold FS.char MS.take
  rw [if_neg (by omega), if_neg (by omega), if_neg (by omega), if_neg (by omega), if_pos (by omega), hV]
  rfl
theorem chars_append (x : FS) (l l' : List Int) : x.chars (l ++ l') = (x.chars l).chars l' := by simp [FS.chars]
/-- A whole sequence. -/
theorem chars_seq (x : FS) (h : x.m = .zero) (mk : List Int) (hmk : mk = [] ∨ ∃ k, mk = [k] ∧ (k = 60 ∨ k = 61 ∨ k = 62 ∨ k = 63)) (l : List Int) (hl : ∀ c ∈ l, numB c = true) {f : Int} (hf : 64 ≤ f ∧ f ≤ 126) :
    ∃ ps ct, x.chars ([27, 91] ++ (mk ++ (l ++ [f]))) = ⟨x.r, .zero, x.t.sequence (mk.headD 0) f ps ct⟩ := by
  rw [chars_append, char_csi x h]
  rcases hmk with rfl | ⟨k, rfl, hk⟩
  · rw [List.nil_append, chars_append]
    obtain ⟨m, e, h1, h2⟩ := chars_num l ⟨x.r, MS.begNum ⟨2, 0, 0, z16⟩, x.t⟩ (.inl rfl) hl
    rw [e]
    refine ⟨m.ps, (min m.ct 16).toNat, ?_⟩
    have := char_final ⟨x.r, m, x.t⟩ h1 hf
    rw [h2] at this
    exact this
  · rw [chars_append, chars_append]
    have em : FS.chars ⟨x.r, MS.begNum ⟨2, 0, 0, z16⟩, x.t⟩ [k] = ⟨x.r, ⟨3, k, (MS.begNum ⟨2, 0, 0, z16⟩).ct, (MS.begNum ⟨2, 0, 0, z16⟩).ps⟩, x.t⟩ := char_mark _ rfl hk
    rw [em]
    obtain ⟨m, e, h1, h2⟩ := chars_num l ⟨x.r, ⟨3, k, (MS.begNum ⟨2, 0, 0, z16⟩).ct, (MS.begNum ⟨2, 0, 0, z16⟩).ps⟩, x.t⟩ (.inr rfl) hl
    rw [e]
    refine ⟨m.ps, (min m.ct 16).toNat, ?_⟩
    have := char_final ⟨x.r, m, x.t⟩ h1 hf
    rw [h2] at this
    exact this
theorem seq_idle (s : TS) (mk f : Int) (ps : List Int) (ct : Nat) (hf : f ∈ idleL) : s.sequence mk f ps ct = s := by
  simp only [idleL, List.mem_cons, List.not_mem_nil, or_false] at hf
  unfold TS.sequence
  by_cases h0 : mk = 0
  · rw [if_pos h0]
    dsimp only
    have hs : TS.stills f = false := by
      unfold TS.stills
      simp only [List.mem_cons, List.not_mem_nil, or_false]
      exact decide_eq_false (by omega)
    rw [hs, if_neg (by decide)]
    have hm : s.move f (ps.getD 0 0) (ps.getD 1 0) = s := by
      unfold TS.move
      rw [if_neg (by omega), if_neg (by omega), if_neg (by omega), if_neg (by omega), if_neg (by omega), if_neg (by omega), if_neg (by omega)]
    rw [hm]
    have he : s.edit f (ps.getD 0 0) = s := by
      unfold TS.edit
      dsimp only
      rw [if_neg (by omega), if_neg (by omega), if_neg (by omega), if_neg (by omega), if_neg (by omega), if_neg (by omega), if_neg (by omega), if_neg (by omega), if_neg (by omega)]
    rw [he]
    unfold TS.adjust
    rw [if_neg (by omega), if_neg (by omega), if_neg (by omega), if_neg (by omega)]
  · rw [if_neg h0]
    split
    · rw [if_neg (by omega)]
    · rfl
/-- What Quiet sends behind CAN. -/
def quietL (mk l : List Int) (f : Int) : List Int :=
  ([27, 91] ++ (mk ++ (l ++ [f]))) ++ (([27, 91] ++ ([62] ++ (l ++ [109]))) ++ [27, 93, 97, 110, 121, 32, 116, 104, 105, 110, 103, 59, 49, 7, 27, 80, 113, 24, 127, 27, 40, 65, 0])
theorem quiet_rest (x : FS) (h : x.m = .zero) : x.chars [27, 93, 97, 110, 121, 32, 116, 104, 105, 110, 103, 59, 49, 7, 27, 80, 113, 24, 127, 27, 40, 65, 0] = x := by
  obtain ⟨r, m, t⟩ := x
  dsimp only at h
  subst h
  kernel_rfl
theorem quiet_pure (x : FS) (h0 : x.r.m = 0) (h : x.m = .zero) (mk : List Int) (hmk : mk = [] ∨ ∃ k, mk = [k] ∧ (k = 60 ∨ k = 61 ∨ k = 62 ∨ k = 63)) (l : List Int) (hl : ∀ c ∈ l, numB c = true) {f : Int} (hf : f ∈ idleL) : x.feed (quietL mk l f) = x := by
  have hf2 : 64 ≤ f ∧ f ≤ 126 := by
    have hf := hf
    simp only [idleL, List.mem_cons, List.not_mem_nil, or_false] at hf
    omega
  have hlow : ∀ c ∈ quietL mk l f, c < 128 := by
    have hl2 : ∀ c ∈ l, c < 128 := fun c hc => by have : 48 ≤ c ∧ c ≤ 59 ∧ c ≠ 58 := of_decide_eq_true (hl c hc); omega
    have hm2 : ∀ c ∈ mk, c < 128 := fun c hc => by
      rcases hmk with rfl | ⟨k, rfl, hk⟩
      · cases hc
      · rw [List.mem_singleton] at hc; omega
    intro c hc
    simp only [quietL, List.mem_append, List.mem_cons, List.not_mem_nil, or_false] at hc
    rcases hc with ((hc | hc) | hc | hc | hc) | ((hc | hc) | hc | hc | hc) | hc
    all_goals first | (exact hl2 c hc) | (exact hm2 c hc) | omega
  rw [feed_low _ x h0 hlow]
  unfold quietL
  obtain ⟨ps, ct, e⟩ := chars_seq x h mk hmk l hl hf2
  rw [chars_append, e, seq_idle _ _ _ _ _ hf]
  have ex : (⟨x.r, .zero, x.t⟩ : FS) = x := by rw [← h]
  rw [ex]
  obtain ⟨ps, ct, e⟩ := chars_seq x h [62] (.inr ⟨62, rfl, by omega⟩) l hl (f := 109) (by omega)
  rw [chars_append, e]
  have e2 : x.t.sequence (List.headD [62] 0) 109 ps ct = x.t := by unfold TS.sequence; rfl
  rw [e2, ex]
  exact quiet_rest x h
/-- Behind any bytes and CAN, what Quiet sends changes nothing. -/
theorem quiet_fresh (r c : Nat) (tx mk l : List Int) (hmk : mk = [] ∨ ∃ k, mk = [k] ∧ (k = 60 ∨ k = 61 ∨ k = 62 ∨ k = 63)) (hl : ∀ c ∈ l, numB c = true) {f : Int} (hf : f ∈ idleL) :
    (FS.fresh r c).feed (tx ++ [24] ++ quietL mk l f) = (FS.fresh r c).feed (tx ++ [24]) := by
  have h := FS.low_feed tx (FS.fresh r c) RS.Low.zero
  rw [feed_append]
  obtain ⟨h1, h2, _⟩ := can_any ((FS.fresh r c).feed tx) (fun q => by have := h q; omega)
  rw [← feed_snoc] at h1 h2
  exact quiet_pure _ h1 h2 mk hmk l hl hf
end Go.Proofs.YtheibfffilomcaaDoor

/- The walk of numbers: the digits and semicolons of a text. -/
namespace Go.Proofs.YtheibfffilomcaaDoor
open Go.RowKit

def numC (c : Int) : Bool := decide (48 ≤ c ∧ c ≤ 59 ∧ c ≠ 58)
def numL (l : List Int) : List Int := l.filter numC
theorem numL_all (l : List Int) : ∀ c ∈ numL l, numC c = true := fun _ hc => (List.mem_filter.1 hc).2
theorem numL_snoc (l : List Int) (c : Int) : numL (l ++ [c]) = numL l ++ (if numC c then [c] else []) := by
  unfold numL
  rw [List.filter_append]
  congr 1
  cases h : numC c <;> simp [h]
theorem bl_ext (s : ByteArray) (a b : Nat) : bl (s.extract a b) = ((bl s).drop a).take (b - a) := by
  unfold bl
  rw [ByteArray.data_extract, Array.toList_extract, List.extract_eq_take_drop, List.map_take, List.map_drop]
theorem bl_one (s : ByteArray) (k : Nat) (h : k < s.size) : bl (s.extract k (k + 1)) = [((s[k]'h).toNat : Int)] := by
  rw [bl_ext, bl_at s k h, show k + 1 - k = 1 by omega]
  rfl
theorem ext_size (s : ByteArray) (k : Nat) (h : k < s.size) : (s.extract k (k + 1)).size = 1 := by
  rw [← bl_length, bl_one s k h]; rfl

set_option maxHeartbeats 1000000 in
theorem numbers_any (s : ByteArray) (w : World) (hs : s.size ≤ 281474976710656) :
    Calls Tryd.prog 30 #[.string s] w fun e w' => ∃ U : ByteArray, e = .returned (.string U) ∧ Hid (bl U = numL (bl s)) ∧ U.size ≤ s.size ∧ w' = w := by
  go_enter Tryd.func30, Tryd.ntmps30
  go_wp2_with fail
  go_loopw [3, 4] (fun t i wr => ∃ (k : Nat) (U : ByteArray), k ≤ s.size ∧ i = .int .i64 k ∧ t = .string U ∧ Hid (bl U = numL ((bl s).take k)) ∧ U.size ≤ k ∧ Hid (wr = w)) (fun _ i _ => s.size - (intOf i).toNat)
  case atStart => exact ⟨0, _, Nat.zero_le _, rfl, rfl, rfl, Nat.le_refl _, rfl⟩
  case round =>
    obtain ⟨k, U, hk, rfl, rfl, HU, hU, hwr⟩ := hrel
    by_cases hlt : k < s.size
    · have hbt := bl_take s k hlt
      have hx1 : (s[k]'hlt).toNat < 256 := UInt8.toNat_lt _
      have HN : Hid (numL ((bl s).take (k + 1)) = numL ((bl s).take k) ++ (if numC ((s[k]'hlt).toNat : Int) then [((s[k]'hlt).toNat : Int)] else [])) := by
        rw [hbt]; exact numL_snoc _ _
      have HO : Hid (bl (s.extract k (k + 1)) = [((s[k]'hlt).toNat : Int)]) := bl_one s k hlt
      have HZ : Hid ((s.extract k (k + 1)).size = 1) := ext_size s k hlt
      have hik : (k : Int) < (s.size : Int) := by omega
      have hk1 : ((k : Int) + 1) ≤ (s.size : Int) := by omega
      have v1 : IntKind.i64.wrap ((k : Int) + 1) = (k : Int) + 1 := IntWalk.i64_in _ (by omega)
      clear hbt
      by_cases c1 : 48 ≤ (s[k]'hlt).toNat
      · by_cases c2 : (s[k]'hlt).toNat ≤ 59
        · by_cases c3 : (s[k]'hlt).toNat = 58
          · have HF : Hid (numC ((s[k]'hlt).toNat : Int) = false) := by
              unfold numC; rw [c3]; exact rfl
            have c3' : ((s[k]'hlt).toNat : Int) = 58 := by omega
            go_wp2_with fail
            go_roundw
            case rel => exact ⟨k + 1, U, by omega, by go_num, rfl, by rw [HN.out, HF.out]; simp; exact HU, by omega, hwr⟩
            case measure => simp [intOf]; omega
          · have HF : Hid (numC ((s[k]'hlt).toNat : Int) = true) := by unfold numC; exact decide_eq_true (by omega)
            go_wp2_with fail
            go_roundw
            case rel => exact ⟨k + 1, U ++ s.extract k (k + 1), by omega, by go_num, rfl, by rw [HN.out, HF.out]; exact (by rw [bl_append, HU.out, HO.out]; rfl), by rw [ByteArray.size_append, HZ.out]; omega, hwr⟩
            case measure => simp [intOf]; omega
        · have HF : Hid (numC ((s[k]'hlt).toNat : Int) = false) := by unfold numC; exact decide_eq_false (by omega)
          go_wp2_with fail
          go_roundw
          case rel => exact ⟨k + 1, U, by omega, by go_num, rfl, by rw [HN.out, HF.out]; simp; exact HU, by omega, hwr⟩
          case measure => simp [intOf]; omega
      · have HF : Hid (numC ((s[k]'hlt).toNat : Int) = false) := by unfold numC; exact decide_eq_false (by omega)
        go_wp2_with fail
        go_roundw
        case rel => exact ⟨k + 1, U, by omega, by go_num, rfl, by rw [HN.out, HF.out]; simp; exact HU, by omega, hwr⟩
        case measure => simp [intOf]; omega
    · have hk : k = s.size := by omega
      subst hk
      have HA : Hid ((bl s).take s.size = bl s) := bl_all s
      go_wp2_with fail
      go_ret
      exact ⟨U, rfl, by rw [← HA.out]; exact HU, hU, hwr⟩
end Go.Proofs.YtheibfffilomcaaDoor

/- The walk of Quiet. -/
namespace Go.Proofs.YtheibfffilomcaaDoor
open Go.RowKit

theorem bl_inj {a b : ByteArray} (h : bl a = bl b) : a = b := by
  apply ByteArray.ext
  apply Array.toList_inj.1
  unfold bl at h
  exact List.map_inj_right (fun x y e => by
    have : x.toNat = y.toNat := by omega
    exact UInt8.toNat_inj.1 this) |>.1 h
/-- The digits and semicolons as a text. -/
def numS (s : ByteArray) : ByteArray := strOfNums (numL (bl s))
theorem numL_byte {s : ByteArray} : ∀ x ∈ numL (bl s), 0 ≤ x ∧ x < 256 := fun x hx => bl_byte s x (List.mem_filter.1 hx).1
theorem numS_bl (s : ByteArray) : bl (numS s) = numL (bl s) := bl_nums _ numL_byte
theorem numS_size (s : ByteArray) : (numS s).size ≤ s.size := by
  unfold numS
  rw [nums_size, ← bl_length]
  exact List.length_filter_le _ _
theorem numbers_eq (s : ByteArray) (w : World) (hs : s.size ≤ 281474976710656) :
    Calls Tryd.prog 30 #[.string s] w fun e w' => e = .returned (.string (numS s)) ∧ w' = w := by
  refine (numbers_any s w hs).mono ?_
  rintro e w' ⟨U, rfl, h1, _, h2⟩
  have e : U = numS s := bl_inj (by rw [numS_bl]; exact h1.out)
  exact ⟨by rw [e], h2⟩
def canB : ByteArray := { data := #[24] }
theorem bl_canB : bl canB = [24] := by kernel_rfl
def idleB : ByteArray := { data := #[69, 70, 73, 78, 79, 81, 82, 85, 86, 87, 89, 90, 92, 93, 94, 95, 96, 97, 98, 99, 101, 105, 106, 107, 110, 111, 112, 113, 115, 116, 117, 118, 119, 120, 121, 122, 123, 124, 125, 126] }
theorem bl_idleB : bl idleB = idleL := by kernel_rfl
theorem idle_one (f : Nat) (hf : f < 40) : ∃ c ∈ idleL, bl (idleB.extract f (f + 1)) = [c] := by
  have hs : f < idleB.size := by show f < 40; exact hf
  have h := bl_one idleB f hs
  have hm : ((idleB[f]'hs).toNat : Int) ∈ bl idleB := by
    unfold bl
    exact List.mem_map.2 ⟨idleB[f]'hs, by simp [ByteArray.getElem_eq_getElem_data], rfl⟩
  exact ⟨_, by rw [← bl_idleB]; exact hm, h⟩
def markB : Nat → ByteArray
  | 0 => { data := #[] }
  | 1 => { data := #[63] }
  | 2 => { data := #[62] }
  | 3 => { data := #[61] }
  | _ => { data := #[60] }
theorem markB_bl (j : Nat) : bl (markB j) = [] ∨ ∃ k, bl (markB j) = [k] ∧ (k = 60 ∨ k = 61 ∨ k = 62 ∨ k = 63) := by
  match j with
  | 0 => exact .inl rfl
  | 1 => exact .inr ⟨63, rfl, by decide⟩
  | 2 => exact .inr ⟨62, rfl, by decide⟩
  | 3 => exact .inr ⟨61, rfl, by decide⟩
  | _ + 4 => exact .inr ⟨60, rfl, by decide⟩
theorem markB_size (j : Nat) : (markB j).size ≤ 1 := by
  match j with
  | 0 => exact Nat.zero_le _
  | 1 => exact Nat.le_refl _
  | 2 => exact Nat.le_refl _
  | 3 => exact Nat.le_refl _
  | _ + 4 => exact Nat.le_refl _
theorem quiet_bytes (r c : Nat) (tx : List Int) (j f : Nat) (hf : f < 40) (b : ByteArray) (T : List Int)
    (hT : T = tx ++ [24] ++ (([27, 91] ++ (bl (markB j) ++ (numL (bl b) ++ bl (idleB.extract f (f + 1))))) ++ (([27, 91] ++ ([62] ++ (numL (bl b) ++ [109]))) ++ [27, 93, 97, 110, 121, 32, 116, 104, 105, 110, 103, 59, 49, 7, 27, 80, 113, 24, 127, 27, 40, 65, 0]))) :
    ((FS.fresh r c).feed (tx ++ [24])).t = ((FS.fresh r c).feed T).t := by
  obtain ⟨x, hx, e⟩ := idle_one f hf
  rw [hT, e]
  have h := quiet_fresh r c tx (bl (markB j)) (numL (bl b)) (markB_bl j) (fun c hc => numL_all _ c hc) hx
  unfold quietL at h
  rw [h]

def qB0 : ByteArray := { data := #[27, 93, 97, 110, 121, 32, 116, 104, 105, 110, 103, 59, 49, 7] }
def qB1 : ByteArray := { data := #[27, 80, 113, 24] }
def qB2 : ByteArray := { data := #[127] }
def qB3 : ByteArray := { data := #[27, 40, 65] }
def qB4 : ByteArray := { data := #[0] }
theorem wp_bsQ {o : Oper} {l : List Value} {ds : List Deferred} {u : World} {K : Act → World → Prop} {Q : Exit → Act → World → Prop} (d : Nat) (x0 x2 x3 : Operand) (ho : o.op = .buildSlice 22 9 #[(0, x0), (1, .const (.string { data := #[24] })), (2, x2), (3, x3), (4, .const (.string { data := #[27, 93, 97, 110, 121, 32, 116, 104, 105, 110, 103, 59, 49, 7] })), (5, .const (.string { data := #[27, 80, 113, 24] })), (6, .const (.string { data := #[127] })), (7, .const (.string { data := #[27, 40, 65] })), (8, .const (.string { data := #[0] }))]) (hd : o.dst = some d) (y0 y2 y3 : ByteArray)
    (h0 : Act.eval ⟨l.toArray, ds⟩ x0 = .string y0) (h2 : Act.eval ⟨l.toArray, ds⟩ x2 = .string y2) (h3 : Act.eval ⟨l.toArray, ds⟩ x3 = .string y3)
    (h : K ⟨(l.set d (.slice (some ⟨u.heap.size, 0, none⟩) 9 9)).toArray, ds⟩ (u.alloc (.cells #[.string y0, .string canB, .string y2, .string y3, .string qB0, .string qB1, .string qB2, .string qB3, .string qB4] 9))) : Oper.wp Tryd.prog o ⟨l.toArray, ds⟩ u K Q := by
  have hb : (Instr.buildSlice 22 9 #[(0, .string y0), (1, .string { data := #[24] }), (2, .string y2), (3, .string y3), (4, .string { data := #[27, 93, 97, 110, 121, 32, 116, 104, 105, 110, 103, 59, 49, 7] }), (5, .string { data := #[27, 80, 113, 24] }), (6, .string { data := #[127] }), (7, .string { data := #[27, 40, 65] }), (8, .string { data := #[0] })]).run Tryd.prog u = .ok (.slice (some ⟨u.heap.size, 0, none⟩) 9 9) (u.alloc (.cells #[.string y0, .string canB, .string y2, .string y3, .string qB0, .string qB1, .string qB2, .string qB3, .string qB4] 9)) := by kernel_rfl
  have hc : ∀ v, Act.eval ⟨l.toArray, ds⟩ (.const v) = v := fun _ => rfl
  unfold Oper.wp execOp
  simp only [ho, h0, h2, h3, hc, List.map_toArray, List.map_cons, List.map_nil, Sem.run_bind, hb, Result.andThen_ok, Sem.run_pure]
  simpa [hd, Act.put, Oper.upon] using h
theorem slQ (u : World) (y0 y2 y3 : ByteArray) : SlTx (u.alloc (.cells #[.string y0, .string canB, .string y2, .string y3, .string qB0, .string qB1, .string qB2, .string qB3, .string qB4] 9)) (some ⟨u.heap.size, 0, none⟩) [y0, canB, y2, y3, qB0, qB1, qB2, qB3, qB4] := fun j t hj => ⟨u.heap.size, 0, rfl, by simp, by
  rw [cell_of_row _ _ _ _ _ _ (heap_alloc_new u _), Nat.zero_add]
  match j, hj with
  | 0, hj => simp at hj; subst hj; rfl
  | 1, hj => simp at hj; subst hj; rfl
  | 2, hj => simp at hj; subst hj; rfl
  | 3, hj => simp at hj; subst hj; rfl
  | 4, hj => simp at hj; subst hj; rfl
  | 5, hj => simp at hj; subst hj; rfl
  | 6, hj => simp at hj; subst hj; rfl
  | 7, hj => simp at hj; subst hj; rfl
  | 8, hj => simp at hj; subst hj; rfl
  | j + 9, hj => simp at hj⟩
theorem allQ (y0 y2 y3 : ByteArray) : allB [y0, canB, y2, y3, qB0, qB1, qB2, qB3, qB4] = bl y0 ++ [24] ++ (bl y2 ++ (bl y3 ++ [27, 93, 97, 110, 121, 32, 116, 104, 105, 110, 103, 59, 49, 7, 27, 80, 113, 24, 127, 27, 40, 65, 0])) := by
  have e0 : bl qB0 = [27, 93, 97, 110, 121, 32, 116, 104, 105, 110, 103, 59, 49, 7] := by kernel_rfl
  have e1 : bl qB1 = [27, 80, 113, 24] := by kernel_rfl
  have e2 : bl qB2 = [127] := by kernel_rfl
  have e3 : bl qB3 = [27, 40, 65] := by kernel_rfl
  have e4 : bl qB4 = [0] := by kernel_rfl
  simp [allB, bl_canB, e0, e1, e2, e3, e4]

set_option maxRecDepth 100000 in
set_option maxHeartbeats 2000000 in
theorem quiet_walk (a b : Int) (text bg : ByteArray) (which mark : Int) (w : World) (ha : -9223372036854775808 ≤ a ∧ a ≤ 9223372036854775807) (hb : -9223372036854775808 ≤ b ∧ b ≤ 9223372036854775807) (hwh : -9223372036854775808 ≤ which ∧ which ≤ 9223372036854775807) (hmk : -9223372036854775808 ≤ mark ∧ mark ≤ 9223372036854775807)
    (htb : Tabs w) (hts : text.size ≤ 140737488355328) (hbs : bg.size ≤ 140737488355328) :
    Calls Tryd.prog 9 #[.agg #[.int .i64 a, .int .i64 b], .string text, .string bg, .int .i64 which, .int .i64 mark] w fun e w' => e = .returned (.bool true) ∧ Below w.heap.size w w' := by
  have hw2 : 2 < w.heap.size := by obtain ⟨t, fr, h⟩ := htb.st; exact blk_lt h
  go_enter Tryd.func9, Tryd.ntmps9
  go_wp2_with fail
  have HG : (w.alloc (Obj.cells #[.int .i64 a, .int .i64 b] 41)).heap[w.heap.size]? = some (.cells #[.int .i64 a, .int .i64 b] 41 (0, 0)) := heap_alloc_new _ _
  have BW : Below w.heap.size w (w.alloc (Obj.cells #[.int .i64 a, .int .i64 b] 41)) := (Below.refl _ _).alloc (Nat.le_refl _) _
  have htW := htb.ch ((Ch.refl (fun _ => False) w).alloc (.cells #[.int .i64 a, .int .i64 b] 41)) (fun _ _ h => h)
  obtain ⟨W, hWW⟩ : ∃ W, W = w.alloc (Obj.cells #[.int .i64 a, .int .i64 b] 41) := ⟨_, rfl⟩
  have hWs : W.heap.size = w.heap.size + 1 := by rw [hWW]; simp
  obtain ⟨lb, hlb⟩ : ∃ lb, lb = w.heap.size := ⟨_, rfl⟩
  rw [← hWs, ← hWW, ← hlb]
  rw [← hWW, ← hlb] at HG
  rw [← hWW] at BW htW
  have SS : ∀ u : World, u.heap[lb]? = some (.cells #[.int .i64 a, .int .i64 b] 41 (0, 0)) → u.rangeAt lb 0 [.int .i64 a, .int .i64 b] := fun u hu j v hv => by
    rw [cell_of_row _ _ _ _ _ _ hu, Nat.zero_add]; simpa using hv
  have hW2 : 2 < W.heap.size := by omega
  have hT2 : SlTx (W.alloc (.cells #[.string text, .string canB] 9)) (some ⟨W.heap.size, 0, none⟩) [text, canB] := fun j t hj => ⟨W.heap.size, 0, rfl, by simp, by
    have := cells_new W [.string text, .string canB] 9 j (.string t) (by
      match j, hj with
      | 0, hj => simp at hj; subst hj; rfl
      | 1, hj => simp at hj; subst hj; rfl)
    have hadd : (⟨W.heap.size, 0, none⟩ : Addr).add j = ⟨W.heap.size, 0 + j, none⟩ := by unfold Addr.add; split <;> simp_all
    rw [hadd] at this; exact this⟩
  have hWa : Below W.heap.size W (W.alloc (.cells #[.string text, .string canB] 9)) := (Below.refl _ _).alloc (Nat.le_refl _) _
  have l1 : Calls Tryd.prog 18 #[.agg #[.int .i64 a, .int .i64 b], .slice (some ⟨W.heap.size, 0, none⟩) 2 2] (W.alloc (.cells #[.string text, .string canB] 9)) _ := fed_any a b (some ⟨W.heap.size, 0, none⟩) 2 [text, canB] _ ha hb (htW.ch ((Ch.refl (fun _ => False) W).alloc _) (fun _ _ h => h)) hT2 (by simp) (by
    intro t ht
    simp at ht
    rcases ht with rfl | rfl
    · omega
    · show (1 : Nat) ≤ 281474976710656; omega)
  refine l1.mono ?_
  rintro e w1 ⟨fa, La, rfl, A1, bA⟩
  have B1 : Below W.heap.size W w1 := hWa.trans (bA.mono hWa.size)
  have A1' : FedAt W.heap.size w1 fa La (szR a) (szC b) (bl text ++ [24]) := by
    have e1 : allB [text, canB] = bl text ++ [24] := by simp [allB, bl_canB]
    rw [← e1]; exact ⟨A1.f, Nat.le_trans hWa.size A1.fb, fun k hk => Nat.le_trans hWa.size (A1.own k hk)⟩
  have HA : Hid (FedAt W.heap.size w1 fa La (szR a) (szC b) (bl text ++ [24])) := A1'
  have HB1 : Hid (Below W.heap.size W w1) := B1
  have HBW : Hid (Below w.heap.size w W) := BW
  have HTW : Hid (Tabs W) := htW
  have G1 := (B1.block lb (blk_lt HG)).trans HG
  clear l1 hT2 hWa A1 bA A1' B1 BW htW htb
  have HWS : Hid (W.heap.size = w.heap.size + 1) := hWs
  have HLB : Hid (lb = w.heap.size) := hlb
  have hlw : lb < w1.heap.size := blk_lt G1
  have hW3 : W.heap.size ≤ w1.heap.size := HB1.out.size
  clear hWs hlb hWW
  go_wp2_with fail
  refine (pick_any which 40 _ hwh.1 hwh.2 (by omega) (by omega)).mono ?_
  rintro e w0 ⟨rfl, rfl⟩
  obtain ⟨f, hf, hf40⟩ : ∃ f : Nat, pickN which 40 = (f : Int) ∧ f < 40 := by
    have := pickN_range which 40 (by omega)
    exact ⟨(pickN which 40).toNat, by omega, by omega⟩
  rw [hf]
  have MG : (w1.alloc (Obj.cells #[Value.string { data := #[] }, Value.string { data := #[63] }, Value.string { data := #[62] }, Value.string { data := #[61] }, Value.string { data := #[60] }] 9)).heap[w1.heap.size]? = some (.cells #[Value.string { data := #[] }, Value.string { data := #[63] }, Value.string { data := #[62] }, Value.string { data := #[61] }, Value.string { data := #[60] }] 9 (0, 0)) := heap_alloc_new _ _
  have BM : Below w1.heap.size w1 (w1.alloc (Obj.cells #[Value.string { data := #[] }, Value.string { data := #[63] }, Value.string { data := #[62] }, Value.string { data := #[61] }, Value.string { data := #[60] }] 9)) := (Below.refl _ _).alloc (Nat.le_refl _) _
  obtain ⟨j, hj, hj5⟩ : ∃ j : Nat, pickN mark 5 = (j : Int) ∧ j < 5 := by
    have := pickN_range mark 5 (by omega)
    exact ⟨(pickN mark 5).toNat, by omega, by omega⟩
  have MC : (w1.alloc (Obj.cells #[Value.string { data := #[] }, Value.string { data := #[63] }, Value.string { data := #[62] }, Value.string { data := #[61] }, Value.string { data := #[60] }] 9)).cell? ⟨w1.heap.size, j, none⟩ = some (.string (markB j)) := by
    rw [cell_of_row _ _ _ _ _ _ MG]
    match j, hj5 with
    | 0, _ => rfl
    | 1, _ => rfl
    | 2, _ => rfl
    | 3, _ => rfl
    | 4, _ => rfl
  go_wp2_with fail
  refine (pick_any mark 5 _ hmk.1 hmk.2 (by omega) (by omega)).mono ?_
  rintro e w0 ⟨rfl, rfl⟩
  rw [hj]
  have ij : (j : Int) < 5 := by omega
  generalize hWM : w1.alloc (Obj.cells #[Value.string { data := #[] }, Value.string { data := #[63] }, Value.string { data := #[62] }, Value.string { data := #[61] }, Value.string { data := #[60] }] 9) = w2 at *
  have ln := numbers_eq bg
  have if1 : (f : Int) + 1 ≤ 40 := by omega
  have v1 : IntKind.i64.wrap ((f : Int) + 1) = (f : Int) + 1 := IntWalk.i64_in _ (by omega)
  have HMM : Hid _ := MG
  have zm := markB_size j
  have zn := numS_size bg
  clear MG hWM
  go_wp2_with fail
  go_quiet ((go_at_call 30; exact Calls.quiet_of_same (ln _ (by omega))))
  obtain ⟨SQ, hSQ⟩ : ∃ SQ : ByteArray, SQ = ({ data := #[27, 91] } : ByteArray) ++ markB j ++ numS bg ++ ({ data := #[69, 70, 73, 78, 79, 81, 82, 85, 86, 87, 89, 90, 92, 93, 94, 95, 96, 97, 98, 99, 101, 105, 106, 107, 110, 111, 112, 113, 115, 116, 117, 118, 119, 120, 121, 122, 123, 124, 125, 126] } : ByteArray).extract f (f + 1) := ⟨_, rfl⟩
  have HSB : Hid (bl SQ = [27, 91] ++ (bl (markB j) ++ (numL (bl bg) ++ bl (idleB.extract f (f + 1))))) := by
    rw [hSQ, bl_append, bl_append, bl_append, numS_bl]
    show bl ({ data := #[27, 91] } : ByteArray) ++ bl (markB j) ++ numL (bl bg) ++ bl (idleB.extract f (f + 1)) = _
    rw [show bl ({ data := #[27, 91] } : ByteArray) = [27, 91] by kernel_rfl]
    simp
  have hSz : SQ.size ≤ 140737488355338 := by
    rw [← bl_length, HSB.out]
    obtain ⟨c, _, e⟩ := idle_one f hf40
    rw [e]
    have := numS_size bg
    rw [← bl_length, numS_bl] at this
    have h2 : (bl (markB j)).length ≤ 1 := by rw [bl_length]; exact zm
    simp only [List.length_append, List.length_cons, List.length_nil]
    omega
  go_wp2_with fail
  rw [← hSQ]
  have HSQ : Hid _ := hSQ
  clear hSQ
  have x0 : Below w1.heap.size w1 ({ World.drewN w2 nq with drawn := World.drawn (World.drewN w2 nq) + 1 } : World) := ⟨BM.os, BM.tape, BM.output, BM.size, BM.block⟩
  have XS : ∀ u : World, Below w1.heap.size w1 u → u.rangeAt lb 0 [.int .i64 a, .int .i64 b] := fun u x => SS u ((x.block lb hlw).trans G1)
  have XW : ∀ u : World, Below w1.heap.size w1 u → Below W.heap.size W u := fun u x => HB1.out.trans (x.mono hW3)
  have XT : ∀ u : World, Below w1.heap.size w1 u → Tabs u := fun u x => HTW.out.kept (fun j hj => (XW u x).block j (by omega))
  have HH := XS _ x0
  refine wp_region_held (S := fun x => x.rangeAt lb 0 [.int .i64 a, .int .i64 b]) mixedC ?_
  refine takeL (i := 0) (d := 49) (v := .agg #[.int .i64 a, .int .i64 b]) rfl rfl (by kernel_rfl) (by kernel_rfl) (by kernel_rfl) (fun _ _ _ h => h) (yieldsIf_load_mid (by rfl) 41 (.tmp 5) rfl lb 0 rfl [.int .i64 a, .int .i64 b] _ (fun x h => h) Tryd.underlying41 rfl info41) HH ?_
  simp only [List.set_cons_zero, List.set_cons_succ]
  refine takeL (i := 1) (d := 50) (v := .string text) rfl rfl (by kernel_rfl) (by kernel_rfl) (by kernel_rfl) (fun _ _ _ h => h) (Or.inl ⟨by rfl, by intro x hSx; go_simp; try (first | rfl | go_num)⟩) HH ?_
  simp only [List.set_cons_zero, List.set_cons_succ]
  refine takeL (i := 2) (d := 51) (v := .string SQ) rfl rfl (by kernel_rfl) (by kernel_rfl) (by kernel_rfl) (fun _ _ _ h => h) (Or.inl ⟨by rfl, by intro x hSx; go_simp; try (first | rfl | go_num)⟩) HH ?_
  simp only [List.set_cons_zero, List.set_cons_succ]
  refine takeL (i := 3) (d := 52) (v := .string bg) rfl rfl (by kernel_rfl) (by kernel_rfl) (by kernel_rfl) (fun _ _ _ h => h) (Or.inl ⟨by rfl, by intro x hSx; go_simp; try (first | rfl | go_num)⟩) HH ?_
  simp only [List.set_cons_zero, List.set_cons_succ]
  refine wpAnyH_all (rs := [4]) (by kernel_rfl) (by simp) ?_
  intro i hi'
  rw [List.mem_singleton] at hi'
  subst hi'
  refine wpOp_step rfl fun Kq hKq => ?_
  rw [if_pos (by rfl)]
  refine wp_callL (f := 30) 53 [.tmp 52] #[9] rfl rfl [.string bg] rfl (by kernel_rfl) (fun v w' => v = .string (numS bg) ∧ w' = ({ World.drewN w2 nq with drawn := World.drawn (World.drewN w2 nq) + 1 } : World)) ((ln _ (by omega)).mono fun e w' h => ⟨_, h.1, rfl, h.2⟩) ?_
  rintro v2 u2 ⟨rfl, rfl⟩
  refine hKq _ _ ⟨HH, ?_⟩
  clear hKq
  simp only [List.set_cons_zero, List.set_cons_succ]
  obtain ⟨S2, hS2⟩ : ∃ S2 : ByteArray, S2 = ({ data := #[27, 91, 62] } : ByteArray) ++ numS bg ++ { data := #[109] } := ⟨_, rfl⟩
  have HS2' : bl S2 = [27, 91] ++ ([62] ++ (numL (bl bg) ++ [109])) := by
    rw [hS2, bl_append, bl_append, numS_bl, show bl ({ data := #[27, 91, 62] } : ByteArray) = [27, 91, 62] by kernel_rfl, show bl ({ data := #[109] } : ByteArray) = [109] by kernel_rfl]
    simp
  have HS2 : Hid (bl S2 = [27, 91] ++ ([62] ++ (numL (bl bg) ++ [109]))) := HS2'
  clear HS2'
  have hS2z : S2.size ≤ 140737488355338 := by
    have := numS_size bg
    rw [← bl_length, numS_bl] at this
    rw [← bl_length, HS2.out]
    simp only [List.length_append, List.length_cons, List.length_nil]
    omega
  refine takeL (i := 5) (d := 54) (v := .string (({ data := #[27, 91, 62] } : ByteArray) ++ numS bg)) rfl rfl (by kernel_rfl) (by kernel_rfl) (by kernel_rfl) (fun _ _ _ h => h) (Or.inl ⟨by rfl, by intro x hSx; go_simp; try (first | rfl | go_num)⟩) HH ?_
  simp only [List.set_cons_zero, List.set_cons_succ]
  refine takeL (i := 6) (d := 55) (v := .string S2) rfl rfl (by kernel_rfl) (by kernel_rfl) (by kernel_rfl) (fun _ _ _ h => h) (Or.inl ⟨by rfl, by intro x hSx; rw [hS2]; go_simp; try (first | rfl | go_num)⟩) HH ?_
  simp only [List.set_cons_zero, List.set_cons_succ]
  refine wpAnyH_all (rs := [7]) (by kernel_rfl) (by simp) ?_
  intro i hi'
  rw [List.mem_singleton] at hi'
  subst hi'
  refine wpOp_step rfl fun Kq hKq => ?_
  rw [if_pos (by rfl)]
  refine wp_bsQ 56 (.tmp 50) (.tmp 51) (.tmp 55) rfl rfl text SQ S2 rfl rfl rfl ?_
  have x1 := x0.alloc x0.size (.cells #[.string text, .string canB, .string SQ, .string S2, .string qB0, .string qB1, .string qB2, .string qB3, .string qB4] 9)
  refine hKq _ _ ⟨XS _ x1, ?_⟩
  clear hKq
  simp only [List.set_cons_zero, List.set_cons_succ]
  refine wpAnyH_all (rs := [8]) (by kernel_rfl) (by simp) ?_
  intro i hi'
  rw [List.mem_singleton] at hi'
  subst hi'
  refine wpOp_step rfl fun Kq hKq => ?_
  rw [if_pos (by rfl)]
  have lf := fed_any a b _ 9 [text, canB, SQ, S2, qB0, qB1, qB2, qB3, qB4] _ ha hb (XT _ x1) (slQ _ text SQ S2) (by simp) (by
    intro t ht
    simp only [List.mem_cons, List.not_mem_nil, or_false] at ht
    rcases ht with rfl | rfl | rfl | rfl | rfl | rfl | rfl | rfl | rfl
    · omega
    · show (1 : Nat) ≤ 281474976710656; omega
    · omega
    · omega
    · show (14 : Nat) ≤ 281474976710656; omega
    · show (4 : Nat) ≤ 281474976710656; omega
    · show (1 : Nat) ≤ 281474976710656; omega
    · show (3 : Nat) ≤ 281474976710656; omega
    · show (1 : Nat) ≤ 281474976710656; omega)
  refine wp_callL (f := 18) 57 [.tmp 49, .tmp 56] #[41, 22] rfl rfl [.agg #[.int .i64 a, .int .i64 b], .slice (some ⟨w2.heap.size, 0, none⟩) 9 9] rfl (by kernel_rfl) (fun v w' => ∃ fb L, v = .tuple #[.pointer (some ⟨fb, 0, none⟩), .bool true] ∧ FAt w' fb L ((FS.fresh (szR a) (szC b)).feed (allB [text, canB, SQ, S2, qB0, qB1, qB2, qB3, qB4])) ∧ Below w1.heap.size w1 w') (lf.mono fun e w' h => by
    obtain ⟨fb, L, h1, h2, h3⟩ := h
    exact ⟨_, h1, fb, L, rfl, h2.f, x1.trans (h3.mono x1.size)⟩) ?_
  rintro v4 u4 ⟨fb, L, rfl, A4, x4⟩
  refine hKq _ _ ⟨XS _ x4, ?_⟩
  clear hKq
  simp only [List.set_cons_zero, List.set_cons_succ]
  have hS4 := XS _ x4
  refine takeL (i := 9) (d := 48) (v := .tuple #[.pointer (some ⟨fb, 0, none⟩), .bool true]) rfl rfl (by kernel_rfl) (by kernel_rfl) (by kernel_rfl) (fun _ _ _ h => h) (Or.inl ⟨by rfl, by intro x hSx; go_simp; try (first | rfl | go_num)⟩) hS4 ?_
  simp only [List.set_cons_zero, List.set_cons_succ]
  refine takeL (i := 10) (d := 58) (v := .pointer (some ⟨fb, 0, none⟩)) rfl rfl (by kernel_rfl) (by kernel_rfl) (by kernel_rfl) (fun _ _ _ h => h) (Or.inl ⟨by rfl, by intro x hSx; go_simp; try (first | rfl | go_num)⟩) hS4 ?_
  simp only [List.set_cons_zero, List.set_cons_succ]
  refine takeL (i := 11) (d := 59) (v := .bool true) rfl rfl (by kernel_rfl) (by kernel_rfl) (by kernel_rfl) (fun _ _ _ h => h) (Or.inl ⟨by rfl, by intro x hSx; go_simp; try (first | rfl | go_num)⟩) hS4 ?_
  simp only [List.set_cons_zero, List.set_cons_succ]
  refine takeL (i := 12) (d := 17) (v := .pointer (some ⟨fb, 0, none⟩)) rfl rfl (by kernel_rfl) (by kernel_rfl) (by kernel_rfl) (fun _ _ _ h => h) (Or.inl ⟨by rfl, by intro x hSx; go_simp; try (first | rfl | go_num)⟩) hS4 ?_
  simp only [List.set_cons_zero, List.set_cons_succ]
  refine takeL (i := 13) (d := 18) (v := .bool true) rfl rfl (by kernel_rfl) (by kernel_rfl) (by kernel_rfl) (fun _ _ _ h => h) (Or.inl ⟨by rfl, by intro x hSx; go_simp; try (first | rfl | go_num)⟩) hS4 ?_
  simp only [List.set_cons_zero, List.set_cons_succ]
  refine wpAnyH_done (by kernel_rfl) ?_ _
  have hT : allB [text, canB, SQ, S2, qB0, qB1, qB2, qB3, qB4] = bl text ++ [24] ++ (([27, 91] ++ (bl (markB j) ++ (numL (bl bg) ++ bl (idleB.extract f (f + 1))))) ++ (([27, 91] ++ ([62] ++ (numL (bl bg) ++ [109]))) ++ [27, 93, 97, 110, 121, 32, 116, 104, 105, 110, 103, 59, 49, 7, 27, 80, 113, 24, 127, 27, 40, 65, 0])) := by
    rw [allQ, HSB.out, HS2.out]
  have hxy := quiet_bytes (szR a) (szC b) (bl text) j f hf40 bg _ hT
  have FA : FAt u4 fa La _ := HA.out.f.kept (P := fun _ => False) ⟨x4.os, x4.tape, x4.output, x4.size, fun k hk _ => x4.block k hk⟩ id (fun _ _ => id)
  have hbyte : ∀ z ∈ bl text ++ [24], 0 ≤ z ∧ z < 256 := fun z hz => (List.mem_append.1 hz).elim (bl_byte _ z) (fun h => by simp at h; omega)
  have l5 := alike_same a b fa fb La L _ _ u4 ha hb FA A4 hxy ((FS.Ok.fresh (szR_bd a) (szC_bd b)).feed _ hbyte).t (fresh_rows _ _ _) (fresh_cols _ _ _)
  have G4 := (x4.block lb hlw).trans G1
  have c40 : u4.cell? ⟨lb, 0, none⟩ = some (.int .i64 a) := (cell_of_row _ _ _ _ _ _ G4).trans rfl
  have c41 : u4.cell? ⟨lb, 1, none⟩ = some (.int .i64 b) := (cell_of_row _ _ _ _ _ _ G4).trans rfl
  have HX4 : Hid (Below w1.heap.size w1 u4) := x4
  clear XS XT A4 x4 hT hxy FA hbyte hS4 lf x1 x0 HH
  go_wp2_with (go_at_call 24; refine l5.mono ?_; rintro e w5 ⟨rfl, S5⟩)
  go_ret
  refine ⟨rfl, ?_⟩
  have b5 := XW u4 HX4.out
  have b6 := HBW.out.trans (b5.mono (by have := HWS.out; omega))
  exact b6.trans (S5.below b6.size (fun k hk h => h))
end Go.Proofs.YtheibfffilomcaaDoor

