import Derived.Test.YtheibfffilomcabGreatDoorEvnU
import Derived.Test.YtheibfffilomcabGreatDoorK27U
import Derived.Test.YtheibfffilomcabGreatDoorHhU
set_option linter.all false
namespace Go.Proofs.YtheibfffilomcabGreatDoor
open Go.Ren Go.Conc Go.ConcN Go.RowKit Go.Proofs.Tryz
variable {w:World} {g:Nat} {t:TypeId}
set_option linter.unusedSimpArgs false
set_option linter.unusedVariables false
noncomputable def nY (P:Program) (u:TypeId):Bool:=match P.underlying u with|some (.int _)=>true|_=>false
theorem Q6{P:Program}{ts:List TypeId}(h:w.ShapedOpen P)(hg:g<P.globals.size)(h0:(((begin P (fun _ _=>0) default).world.heap[g]?).bind Obj.row?).map (·.2)=some t)(hb:P.buildable t=true)(hc:P.cellTypes P.depth t=some ts)(hp:ts.all (nY P)=true):∃o,w.heap[g]? =some o∧(∀ρ,lM ρ o=o)∧∀c t,o≠ .pending c t:=by
 obtain⟨⟨zero,t'⟩,h1,rfl⟩:=Option.map_eq_some_iff.1 h0;obtain⟨cs,hh,hs,hr⟩:=h.1 g zero t' hg h1;obtain⟨ts',hts,_,hall⟩:=hr hb;rw[hc]at hts;cases hts;refine⟨_,hh,fun ρ=>?_,fun c t e=>by cases e⟩;have:cs.map (mv ρ)=cs:=by
  refine Array.ext_getElem? fun i=>?_;rw[Array.getElem?_map];cases hv:cs[i]? with
  |none=>rfl
  |some v=>
   obtain⟨u,hu,hok⟩:=hall i v hv;have hpl:=List.all_eq_true.1 hp u (fu hu);unfold nY at hpl;unfold Cell.ok at hok;split at hpl
   ·rename_i k hk;rw[hk]at hok;cases v<;>simp at hok;simp[mv]
   ·cases hpl
 simp[lM,this]
theorem row0:(((begin prog (fun _ _=>0) default).world.heap[0]?).bind Obj.row?).map (·.2)=some 190:=by kernel_rfl
theorem iT:(((begin prog (fun _ _=>0) default).world.heap[1]?).bind Obj.row?).map (·.2)=some 217:=by kernel_rfl
theorem ac8:(((begin prog (fun _ _=>0) default).world.heap[2]?).bind Obj.row?).map (·.2)=some 239:=by kernel_rfl
theorem ac9:(((begin prog (fun _ _=>0) default).world.heap[3]?).bind Obj.row?).map (·.2)=some 3:=by kernel_rfl
theorem ac_:(((begin prog (fun _ _=>0) default).world.heap[4]?).bind Obj.row?).map (·.2)=some 253:=by kernel_rfl
theorem ada:(((begin prog (fun _ _=>0) default).world.heap[5]?).bind Obj.row?).map (·.2)=some 257:=by kernel_rfl
theorem adb:(((begin prog (fun _ _=>0) default).world.heap[6]?).bind Obj.row?).map (·.2)=some 258:=by kernel_rfl
noncomputable def O9 (t:TypeId):Bool:=prog.buildable t&&(match prog.cellTypes prog.depth t with|some ts=>ts.all (nY prog)|none=>false)
theorem O8:[190,217,239,3,253,257,258].all O9=true:=by kernel_rfl
theorem mM(h:w.ShapedOpen prog)(hg:g<7)(ht:t∈[190,217,239,3,253,257,258])(h0:(((begin prog (fun _ _=>0) default).world.heap[g]?).bind Obj.row?).map (·.2)=some t):∃o,w.heap[g]? =some o∧(∀ρ,lM ρ o=o)∧∀c t,o≠ .pending c t:=by
 have hp:=List.all_eq_true.1 O8 t ht;unfold O9 at hp;simp only[Bool.and_eq_true]at hp;obtain⟨h1,h2⟩:=hp;split at h2
 ·rename_i ts hts;exact Q6 h (by rw[SI];exact hg) h0 h1 hts h2
 ·cases h2
theorem K9(h:w.ShapedOpen prog):fD w:=by
 intro b hb
 match b,hb with
 | 0,_=>exact mM h (by omega) (by decide) row0
 | 1,_=>exact mM h (by omega) (by decide) iT
 | 2,_=>exact mM h (by omega) (by decide) ac8
 | 3,_=>exact mM h (by omega) (by decide) ac9
 | 4,_=>exact mM h (by omega) (by decide) ac_
 | 5,_=>exact mM h (by omega) (by decide) ada
 | 6,_=>exact mM h (by omega) (by decide) adb
end Go.Proofs.YtheibfffilomcabGreatDoor
