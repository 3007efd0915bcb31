/- The walks of the machine of modes: the event of a sequence. -/
import Derived.Test.YtheibfffilomcaaDoorMwb
import Derived.StillTail
import Derived.StillTactics
namespace Go.Proofs.YtheibfffilomcaaDoor
open Go.RowKit

theorem len16 {l : List Int} (h : l.length = 16) : ∃ p0 p1 p2 p3 p4 p5 p6 p7 p8 p9 p10 p11 p12 p13 p14 p15, l = [p0, p1, p2, p3, p4, p5, p6, p7, p8, p9, p10, p11, p12, p13, p14, p15] := by
  match l, h with
  | [p0, p1, p2, p3, p4, p5, p6, p7, p8, p9, p10, p11, p12, p13, p14, p15], _ => exact ⟨_, _, _, _, _, _, _, _, _, _, _, _, _, _, _, _, rfl⟩

theorem mixed : Tryd.prog.follows .mixedOrders = true := by kernel_rfl

/-- A struct or an array read whole, in a region that leaves its order open. -/
theorem wpStill_load_mid {P : Program} {ops : Array Oper} {w : World} {Q : Act → Prop} {a : Act} {o : Oper} {rest : List Oper} (hgd : o.guard = none) (ty : TypeId) (x : Operand) (ho : o.op = .load ty x) (b off : Nat)
    (hx : a.eval x = .pointer (some ⟨b, off, none⟩)) (cs : List Value) (d : TypeDesc) (hc : w.rangeAt b off cs) (hu : P.underlying ty = some d) (hd : d.isRow = true) (hi : (P.info? ty).map (·.size) = some cs.length)
    (h : wpStill P ops w Q rest (a.put o.dst (.agg cs.toArray))) : wpStill P ops w Q (o :: rest) a := by
  refine wpStill_step fun K hK => ?_
  have hw : Region.wanted o (yielded ops a.tmps) = true := by simp [Region.wanted, hgd]
  rw [if_pos hw]
  unfold Oper.still execOp
  simp only [ho, hx, Instr.loadAt, Instr.sureAddr, Sem.run_bind, Sem.run_pure, Result.andThen_ok, run_loadVar_mid w b off ty cs d hc hu hd hi, Oper.stillUpon]
  exact ⟨trivial, hK _ h⟩

theorem there_row {w : World} {g : Nat} {ev : List Int} {t : TypeId} (h : w.heap[g]? = some (.cells (intA ev) t (0, 0))) : w.there g 0 ev.length := fun j hj => by
  refine ⟨?_, frozen_of_row w g _ _ t h⟩
  rw [cell_of_row _ _ _ _ _ _ h]
  simp [intA, intC, hj]
theorem info42 : (Tryd.prog.info? 73).map (·.size) = some 16 := by kernel_rfl

set_option maxRecDepth 100000 in
set_option maxHeartbeats 2000000 in
theorem seqEv_walk (mb mo : Nat) (s : MS) (f : Int) (w : World) (h : MAt w mb mo s) (hs : s.ok) (h1 : 1 ≤ s.ct) :
    Calls Tryd.prog 97 #[.pointer (some ⟨mb, mo, none⟩), .int .i64 f] w fun e w' => e = .returned (.agg (intA (s.seqEv f))) ∧ Below w.heap.size w w' := by
  have c1 := h.c1
  have c2 := h.c2
  have hlt := h.lt
  have h17 := hs.c1
  have rg : w.rangeAt mb (mo + 3) (intC s.ps) := fun j v hv => by
    have hj : j < 16 := by
      have := (List.getElem?_eq_some_iff.1 hv).1
      simpa [intC, h.len] using this
    rw [intC_get _ _ (by rw [h.len]; exact hj)] at hv
    rw [h.cp j hj]; exact hv
  obtain ⟨p0, p1, p2, p3, p4, p5, p6, p7, p8, p9, p10, p11, p12, p13, p14, p15, hp⟩ := len16 h.len
  have e : s.seqEv f = [4, 0, s.mr, f, min s.ct 16, p0, p1, p2, p3, p4, p5, p6, p7, p8, p9, p10, p11, p12, p13, p14, p15] := by unfold MS.seqEv; rw [hp]; rfl
  rw [hp] at rg
  have rg' : w.rangeAt mb (mo + 3) [.int .i64 p0, .int .i64 p1, .int .i64 p2, .int .i64 p3, .int .i64 p4, .int .i64 p5, .int .i64 p6, .int .i64 p7, .int .i64 p8, .int .i64 p9, .int .i64 p10, .int .i64 p11, .int .i64 p12, .int .i64 p13, .int .i64 p14, .int .i64 p15] := rg
  have HE : Hid _ := e
  clear e rg hp
  have hu := Tryd.underlying73
  have hi := info42
  go_enter Tryd.func97, Tryd.ntmps97
  go_wp2_with fail
  generalize hW : w.alloc (Obj.cells #[.int .i64 0, .int .i64 0, .int .i64 0, .int .i64 0, .int .i64 0, .int .i64 0, .int .i64 0, .int .i64 0, .int .i64 0, .int .i64 0, .int .i64 0, .int .i64 0, .int .i64 0, .int .i64 0, .int .i64 0, .int .i64 0, .int .i64 0, .int .i64 0, .int .i64 0, .int .i64 0, .int .i64 0] 75) = W
  have hWz : W = w.alloc (.cells (intA noEv) 75) := hW.symm
  have d1 : W.cell? ⟨mb, mo + 1, none⟩ = some (.int .i64 s.mr) := by rw [hWz]; exact (World.cell?_of_block (Below.heap_alloc _ _ _ hlt)).trans c1
  have d2 : W.cell? ⟨mb, mo + 2, none⟩ = some (.int .i64 s.ct) := by rw [hWz]; exact (World.cell?_of_block (Below.heap_alloc _ _ _ hlt)).trans c2
  have d3 : W.rangeAt mb (mo + 3) [.int .i64 p0, .int .i64 p1, .int .i64 p2, .int .i64 p3, .int .i64 p4, .int .i64 p5, .int .i64 p6, .int .i64 p7, .int .i64 p8, .int .i64 p9, .int .i64 p10, .int .i64 p11, .int .i64 p12, .int .i64 p13, .int .i64 p14, .int .i64 p15] := by rw [hWz]; exact World.rangeAt_alloc rg' _
  have hg : W.heap[w.heap.size]? = some (.cells (intA noEv) 75 (0, 0)) := by rw [hWz]; exact heap_alloc_new _ _
  have d4 : W.there w.heap.size 0 21 := there_row hg
  have bl0 : Below w.heap.size w W := by rw [hWz]; exact (Below.refl _ _).alloc (Nat.le_refl _) _
  have HG : Hid _ := hg
  clear hW hWz rg' c1 c2 hg
  clear hu hi
  have hmin : min s.ct 16 = if 16 < s.ct then 16 else s.ct := by split <;> omega
  have ev : s.seqEv f = [4, 0, s.mr, f, if 16 < s.ct then 16 else s.ct, p0, p1, p2, p3, p4, p5, p6, p7, p8, p9, p10, p11, p12, p13, p14, p15] := by rw [HE.out, hmin]
  have HV : Hid _ := ev
  clear ev hmin
  refine wp_region_still_tail 15 mixed (by kernel_rfl) ?_
  simp only [List.take_succ_cons, List.take_zero, List.drop_succ_cons, List.drop_zero]
  iterate 13 still_step
  refine wpStill_load_mid rfl 73 (.tmp 17) rfl mb (mo + 3) rfl [.int .i64 p0, .int .i64 p1, .int .i64 p2, .int .i64 p3, .int .i64 p4, .int .i64 p5, .int .i64 p6, .int .i64 p7, .int .i64 p8, .int .i64 p9, .int .i64 p10, .int .i64 p11, .int .i64 p12, .int .i64 p13, .int .i64 p14, .int .i64 p15] _ d3 Tryd.underlying73 rfl info42 ?_
  still_step
  refine wpStill_nil ?_
  refine wp_eset _ rfl (.tmp 4) (.tmp 19) rfl w.heap.size noEv [4, 0, s.mr, f, if 16 < s.ct then 16 else s.ct, p0, p1, p2, p3, p4, p5, p6, p7, p8, p9, p10, p11, p12, p13, p14, p15] rfl _ rfl rfl rfl 75 HG.out rfl ?_
  intro u hg hgr hz
  have bl1 : Below w.heap.size w u := (bl0.drew).grown hgr bl0.size (fun k e => by simp at e; omega)
  clear d1 d2 d3 d4
  go_wp2_with fail
  all_goals refine bodyPost_ret (results_ev1 Tryd.results97 _ u w.heap.size _ rfl 75 (0, 0) rfl hg) rfl ?_
  all_goals rw [HV.out]
  all_goals exact ⟨rfl, bl1⟩

end Go.Proofs.YtheibfffilomcaaDoor
