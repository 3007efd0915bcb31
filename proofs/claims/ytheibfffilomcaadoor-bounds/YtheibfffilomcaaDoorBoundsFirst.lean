/-
  Bounds: after every text the cursor, the saved spots, the region and all cells are such as may be.
  Conditions: the tables that the row lists hold what the program's text lays.
-/
import Derived.Test.YtheibfffilomcaaDoorCards
import Derived.Test.YtheibfffilomcaaDoorTie
import Derived.Test.YtheibfffilomcaaDoorKb
import Derived.Test.YtheibfffilomcaaDoorTab3M
import Derived.ShutString
import Derived.ChangeOld
import Derived.ChangeMaps5
import Derived.Deep.DeepHandedRow
import Derived.SizedLaws
namespace Go.Proofs.YtheibfffilomcaaDoor.bounds
open Go.ChangeShapes Go.WideShapes Go.ChangeAt Go.RowKit

theorem own : ownKnob Tryd.prog.godebug = none := by kernel_rfl
theorem laidOut : laidOutB Tryd.prog = true := by kernel_rfl

set_option maxRecDepth 100000 in
theorem open_size {H : Type} {enc : TypeId × Value → H} {W : World} {r : Reach} {b0 base : Nat} {sp : Nat → Bool} {held : Bool} {v : Value} {d : DataW H} {ps : List MemPlace} (hval : Value.okWide Tryd.prog W r b0 41 v) (hd : DataW.Trod enc Tryd.prog W base sp held 41 v d ps) :
    ∃ a b, v = .agg #[.int .i64 a, .int .i64 b] ∧ (Lit.int .i64 a).wf = true ∧ (Lit.int .i64 b).wf = true := by
  obtain ⟨cs, rfl, hcs⟩ := okWide_struct Tryd.underlying41 hval
  obtain ⟨fuel, hf⟩ := hd
  have hf' : DataW.trod enc Tryd.prog W base sp held fuel 41 cs.toList = some (d, ps) := by simpa [Value.cells] using hf
  obtain ⟨y0, y1, n, _, hl, h0, h1⟩ := trod_struct2 Tryd.underlying41 hf'
  obtain ⟨a, ha, _, wa⟩ := DataW.trod_int Tryd.underlying3 h0
  obtain ⟨b, hb, _, wb⟩ := DataW.trod_int Tryd.underlying3 h1
  have e3 : Tryd.prog.cellsOf 3 = 1 := by kernel_rfl
  have e41 : Tryd.prog.cellsOf 41 = 2 := by kernel_rfl
  rw [e41] at hl
  refine ⟨a, b, ?_, wa, wb⟩
  have ha' : (cs.toList.drop 0).take 1 = [.int .i64 a] := e3 ▸ ha
  have hb' : (cs.toList.drop 1).take 1 = [.int .i64 b] := e3 ▸ hb
  obtain ⟨l⟩ := cs
  simp only at hl ha' hb'
  match l, hl, ha', hb' with
  | [x, y], _, ha', hb' =>
    simp at ha' hb'
    subst ha' hb'
    rfl

theorem strs_weight {H : Type} (P : Program) (e : TypeId) (ss : List ByteArray) : ∀ s ∈ ss, s.data.toList.length ∈ DataW.weightsAll P e (strs (H := H) ss) := by
  induction ss with
  | nil => intro s hs; cases hs
  | cons t ss ih =>
    intro s hs
    simp only [strs, List.map_cons, DataW.weightsAll, List.mem_append]
    rcases List.mem_cons.1 hs with rfl | hs
    · left; simp [DataW.weights]
    · right; exact ih s hs

set_option maxRecDepth 100000 in
theorem contract (H : Type) (enc : TypeId × Value → H) (W : World) (base : Nat) (args : Array Value) (ds gs : List (DataW H)) (before : List MemPlace)
    (hval0 : ∀ (j : Nat) t v, Tryd.f8.params[j]? = some t → args[j]? = some v → Value.okWide Tryd.prog W .any base t v)
    (hW : DataW.Whole enc Tryd.prog Tryd.f8.params.toList Rows.boundsSpec.vars false W args.toList ds gs before) (hL : laidMetH Tryd.prog Rows.boundsRow.laid W) (ts : List TypeId) (hk0 : (DataW.weightsEach Tryd.prog (Tryd.f8.params.toList ++ ts) (ds ++ gs)).all (· ≤ reachBytes) = true) :
    Calls Tryd.prog 8 args W fun e W' => ∃ v, e = .returned v ∧ Rows.boundsSpec.post enc Tryd.prog Tryd.f8 false true false false W args v W' := by
  have htb : Tabs W := tabs_of hL
  have hval : ∀ (j : Nat) t v, Tryd.f8.params[j]? = some t → args[j]? = some v → Value.okWide Tryd.prog W .any base t v := hval0
  have hW' := hW
  obtain ⟨p, q, hA0, hV, rfl, hfz, hnd⟩ := hW
  have hA : DataW.TrodAll enc Tryd.prog W 0 (fun _ => true) true Tryd.f8.params.toList args.toList ds p := hA0
  have hk : (DataW.weightsEach Tryd.prog (Tryd.f8.params.toList ++ ts) (ds ++ gs)).all (· ≤ reachBytes) = true := hk0
  rw [Tryd.params8] at hA hval hk
  obtain ⟨v0, vs0, d0, ds0, p0, q0, hargs, rfl, rfl, h0, r0⟩ := trodAll_cons hA
  obtain ⟨v1, vs1, d1, ds1, p1, q1, rfl, rfl, rfl, h1, r1⟩ := trodAll_cons r0
  obtain ⟨rfl, rfl, rfl⟩ := trodAll_nil r1
  obtain rfl : args = #[v0, v1] := by cases args; simp_all
  obtain ⟨rfl, rfl⟩ := trodVars_none hV
  have k0 := h0
  have lt0 : ∀ x ∈ p0, x.block < W.heap.size := by obtain ⟨m, hm⟩ := k0; exact DataW.trod_lt m _ _ _ hm
  have k1 := h1
  have lt1 : ∀ x ∈ p1, x.block < W.heap.size := by obtain ⟨m, hm⟩ := k1; exact DataW.trod_lt m _ _ _ hm
  obtain ⟨a0, b0, rfl, wa0, wb0⟩ := open_size (hval 0 41 v0 rfl rfl) h0
  obtain ⟨r1, n1, c1, rfl⟩ := okWide_slice Tryd.underlying22 (hval 1 22 v1 rfl rfl)
  obtain ⟨t1, hn1, hr1, hs1⟩ : ∃ T : List ByteArray, (T.length = n1 ∧ n1 ≤ 140737488355328) ∧ SlTx W r1 T ∧ ∀ s ∈ T, s.size ≤ 140737488355328 := by
    obtain ⟨fuel, hf⟩ := h1
    rcases open_strings Tryd.underlying22 Tryd.underlying9 (by kernel_rfl) hf with ⟨hcs, _⟩ | ⟨x, l, c, zs, hcs, _, hl, hm, hz, hx, hcell, hwz⟩
    · simp [Value.cells] at hcs
      obtain ⟨rfl, rfl, rfl⟩ := hcs
      exact ⟨[], ⟨rfl, by omega⟩, fun j t hj => by simp at hj, fun s hs => by simp at hs⟩
    · simp [Value.cells] at hcs
      obtain ⟨rfl, rfl, rfl⟩ := hcs
      have hz' : zs.length = c1 := by simpa using hz
      have hd : d1 = .slice (strs (zs.take n1)) (strs (zs.drop n1)) := congrArg Prod.fst hx
      have hbig := sized_slice hk (j := 1) (t := 22) (e := 9) (elems := strs (zs.take n1)) (spare := strs (zs.drop n1)) rfl (by rw [← hd]; rfl) Tryd.underlying22
      have hby : Tryd.prog.bytesOf 9 = 16 := by kernel_rfl
      rw [hby] at hbig
      have hl1 : (strs (H := H) (zs.take n1)).length = n1 := by simp [strs]; omega
      have hrb : reachBytes = 140737488351232 := rfl
      rw [hl1, hrb] at hbig
      have hsh : n1 ≤ 140737488355328 ∧ ∀ s ∈ zs.take n1, s.size ≤ 140737488355328 := ⟨by omega, fun s hs => by
        have hmem : s.data.toList.length ∈ DataW.weights Tryd.prog 22 (.slice (strs (H := H) (zs.take n1)) (strs (zs.drop n1))) := by
          simp only [DataW.weights, Tryd.underlying22]
          exact List.mem_cons_of_mem _ (List.mem_append_left _ (strs_weight Tryd.prog 9 _ s hs))
        have hq := List.all_eq_true.1 hk _ (DataW.weights_mem_each (j := 1) (t := 22) (d := .slice (strs (H := H) (zs.take n1)) (strs (zs.drop n1))) rfl (by rw [← hd]; rfl) _ hmem)
        simp only [decide_eq_true_eq, hrb, Array.length_toList] at hq
        show s.data.size ≤ _
        omega⟩
      refine ⟨zs.take n1, ⟨by rw [List.length_take]; omega, hsh.1⟩, fun j t hj => ?_, hsh.2⟩
      have hjn : j < n1 := by
        have := (List.getElem?_eq_some_iff.1 hj).1
        rw [List.length_take] at this; omega
      have hcj := hcell j (by omega)
      obtain ⟨b, off, spot⟩ := x
      have hspot : spot = none := by simpa [Addr.add] using World.cell?_spot (hcell 0 (by omega))
      subst hspot
      have hadd : (⟨b, off, none⟩ : Addr).add j = ⟨b, off + j, none⟩ := by unfold Addr.add; split <;> simp_all
      have ht : zs.getD j ByteArray.empty = t := by
        rw [List.getElem?_take, if_pos hjn] at hj
        simp [List.getD, hj]
      rw [hadd, ht] at hcj
      exact ⟨b, off, rfl, World.block_lt_of_cell? _ _ hcj, hcj⟩
  clear hA0 hval0
  refine (bounds_walk a0 b0 r1 n1 c1 t1 W (bounds_i64 wa0) (bounds_i64 wb0) htb hr1 hn1 hs1).mono fun e W' ⟨he, bel⟩ => ?_
  subst he
  exact ⟨_, rfl, _, _, _, [], _, [], hW', trodAll_mk1 (shut_bool Tryd.underlying4 _), (trodAll_cons_mk (Below.trod laidOut (by kernel_rfl) (of_decide_eq_true (by kernel_rfl)) k0 bel lt0) (trodAll_cons_mk (Below.trod laidOut (by kernel_rfl) (of_decide_eq_true (by kernel_rfl)) k1 bel lt1) trodAll_mk0)), rfl, bel.frame _, fun h => by cases h⟩

/-- The tables as the program's text lays them. -/
def putT (arr : Array Value) : Obj → Obj
  | .cells _ t frozen => .cells arr t frozen
  | o => o
theorem laid_met (os : Os) : laidMet Tryd.prog Rows.boundsRow.laid (({ World.holding Tryd.prog os ⟨#[], #[], []⟩ with heap := (((World.holding Tryd.prog os ⟨#[], #[], []⟩).heap.modify 1 (putT leadsArr)).modify 0 (putT spansArr)).modify 2 (putT strokesArr) } : World).forCall (fun _ _ => 0) ⟨#[], #[.agg #[.int .i64 0, .int .i64 0], .slice none 0 0], []⟩).memory :=
  laidMet_of_run' 8 (by kernel_rfl) (by kernel_rfl)
theorem reads (os : Os) {H : Type} (enc : TypeId × Value → H) : ∃ places, DataW.whole enc Tryd.prog (({ World.holding Tryd.prog os ⟨#[], #[], []⟩ with heap := (((World.holding Tryd.prog os ⟨#[], #[], []⟩).heap.modify 1 (putT leadsArr)).modify 0 (putT spansArr)).modify 2 (putT strokesArr) } : World).forCall (fun _ _ => 0) ⟨#[], #[.agg #[.int .i64 0, .int .i64 0], .slice none 0 0], []⟩).memory Tryd.f8.params.toList Rows.boundsSpec.vars false #[Value.agg #[.int .i64 0, .int .i64 0], .slice none 0 0].toList 8 = some ([.agg [.lit (.int .i64 0), .lit (.int .i64 0)], .nil], [], places) :=
  ⟨[], by kernel_rfl⟩

set_option maxRecDepth 100000 in
theorem lifted (os : Os) (started : os.Started) (H : Type) (enc : TypeId × Value → H) (F : Stop.Interp) :
    ReturnsInHanded {} Tryd.checked os 8 .any ((OpenSpec.ofChange Rows.boundsSpec).preRow enc Tryd.prog Tryd.f8 Rows.boundsRow.domain false Rows.boundsRow.laid) (((OpenSpec.ofChange Rows.boundsSpec).at F).post enc Tryd.prog Tryd.f8 false true false false) := by
  obtain ⟨places, hx⟩ := reads os enc
  refine returnsInHanded_of_row (C := Tryd.checked) (s := OpenSpec.ofChange Rows.boundsSpec) own started (by kernel_rfl) Tryd.func8
    (witness_row_at (enc := enc) (C := Tryd.checked) false ({ World.holding Tryd.prog os ⟨#[], #[], []⟩ with heap := (((World.holding Tryd.prog os ⟨#[], #[], []⟩).heap.modify 1 (putT leadsArr)).modify 0 (putT spansArr)).modify 2 (putT strokesArr) } : World) #[.agg #[.int .i64 0, .int .i64 0], .slice none 0 0] rfl (by kernel_rfl) (by kernel_rfl) (by kernel_rfl)
      (OpenSpec.preRow_of_cond 8 hx (by kernel_rfl) (fun k hk => by cases hk) (by kernel_rfl) (laid_met os))) ?_
  intro W base args ds gs before hval hW _ _ hsz hL _ _
  exact contract H enc W base args ds gs before hval hW hL _ hsz

theorem said : Rows.BoundsSaid :=
  OpenClaim.holds_of_cond 8 Tryd.f8 rfl rfl rfl rfl rfl rfl rfl ⟨rfl, rfl, rfl, rfl, rfl⟩ rfl rfl rfl rfl rfl (by kernel_rfl) Tryd.func8 (by kernel_rfl)
    (of_decide_eq_true (by kernel_rfl)) (by unfold Func.isWrapper; first | (rw [if_pos (by decide +kernel)]; kernel_rfl) | (rw [if_neg (by decide +kernel)]; exact ⟨rfl, rfl⟩))
    (fun os started H enc _ F => by rw [OpenClaim.pre_eq_preRow]; exact lifted os started H enc F)

theorem plain (f : FuncId) (fn : Func) (hf : Tryd.pinned.checked.prog.funcNamed "slate/slatekeep.Bounds" = some f) (hfn : Tryd.pinned.checked.prog.funcs[f]? = some fn) :
    false = Tryd.pinned.checked.prog.looks [] ∧ ∀ (j : Nat) t, fn.params[j]? = some t → Tryd.pinned.checked.prog.wantsStandIn t = false := by
  obtain rfl : f = 8 := Option.some.inj ((show Tryd.prog.funcNamed "slate/slatekeep.Bounds" = some 8 by kernel_rfl).symm.trans hf) |>.symm
  obtain rfl : fn = Tryd.f8 := (Option.some.inj (Tryd.func8.symm.trans hfn)).symm
  refine ⟨by kernel_rfl, fun j t ht => ?_⟩
  rw [Tryd.params8] at ht
  have : t = 41 ∨ t = 22 := by simpa using Array.mem_of_getElem? ht
  rcases this with rfl | rfl
  · exact (show Tryd.prog.wantsStandIn 41 = false by kernel_rfl)
  · exact (show Tryd.prog.wantsStandIn 22 = false by kernel_rfl)

/-- The first form's card. -/
theorem card : Rows.BoundsCardSaid :=
  Claim7.holds_tied_plain_at .later [] _ _ _ _ said (fun _ h => by cases h) (by kernel_rfl) (fun _ h => by cases h) bounds_row_tie rfl ⟨rfl, rfl⟩ (by kernel_rfl) rfl plain (by kernel_rfl)
end Go.Proofs.YtheibfffilomcaaDoor.bounds
