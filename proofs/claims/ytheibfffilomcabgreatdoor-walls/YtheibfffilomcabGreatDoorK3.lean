import Derived.Test.YtheibfffilomcabGreatDoorEvnU
import Derived.Test.YtheibfffilomcabGreatDoorK2
set_option linter.all false
set_option maxRecDepth 100000
set_option maxHeartbeats 4000000
namespace Go.Proofs.YtheibfffilomcabGreatDoor
open Go.Ren Go.Conc Go.ConcN Go.RowKit Go.Conc.Lib Go.ConcR.Gen Go.ConcN.Gen Go.Proofs.Tryz
variable {Wg C n j:Nat}
open Go.ConcR (KK wgBlock WgAt stA smA rd wr Payload Aside2 DC0 ofEvent_cell)
set_option linter.unusedSimpArgs false
set_option linter.unusedVariables false
def b13:Frame:=baseD 13
noncomputable def bot:Frame:={(default:Frame)with fn:=prog.funcs.size,defers:=[],mode:=.panicking [goexitEntry]}
noncomputable def qM:Code:=f13.body.getD .skip
noncomputable def mR:Array Oper:=match qM with| .seq _ (.seq _ (.seq _ (.region _ ops _)))=>ops|_=>#[]
theorem vO:(prog.funcs[b13.fn]?).any (·.norace)=false:=by kernel_rfl
section
variable {C n j:Nat} {w w₁:World}
theorem O6(h:PayAt C n w)(hj:j<n):∃u,w.cell? ⟨C,j,none⟩=some u∧w.frozen? ⟨C,j,none⟩=false:=by obtain⟨arr,h1,h2⟩:=h;exact⟨arr[j]'(by omega),by simp[World.cell?,h1,h2,hj],by simp[World.frozen?,h1]⟩
theorem Ej(hp:PayAt C n w)(v:Value):(∃arr,w.heap[C]? =some (.cells arr Payload.ety)∧arr.size=n∧(w.setCell ⟨C,j,none⟩ v).heap[C]? =some (.cells (arr.setIfInBounds j v) Payload.ety)):=by obtain⟨arr,h1,h2⟩:=hp;exact⟨arr,h1,h2,by rw[setCell_eq_setRow w C j arr _ (0,0) _ h1,setRow_heap w C _ _ _ _ h1]⟩
theorem xN(hp:PayAt C n w)(v:Value):AsideCell C n j w (w.setCell ⟨C,j,none⟩ v):=by have hA:=aside_setCell w ⟨C,j,none⟩ v;obtain⟨arr,h1,h2,hb⟩:=Ej (j:=j) hp v;refine⟨hA.tape,hA.os,hA.output,hA.size,fun b hb'=>hA.block b hb',fun _=>⟨_,hb,by simpa using h2⟩,fun i' hi'=>?_⟩;simp[World.cell?,hb,h1,Array.getElem?_setIfInBounds_ne (Ne.symm hi')]
theorem La(hp:PayAt C n w)(hj:j<n)(v:Value):Has C j v (w.setCell ⟨C,j,none⟩ v):=by obtain⟨arr,h1,h2,hb⟩:=Ej (j:=j) hp v;simp[Has,World.cell?,hb,h2,hj]
theorem QX{Wg:Nat}:EvW Wg (yA C) NJ (j+1) ⟨.cell ⟨C,j,none⟩,true,false⟩:=by refine⟨fun fn pos=>⟨rfl,fun y hy=>?_⟩,by simp,by simp,by simp⟩;simp only[ofEvent_cell,MemAct.touch?,sJ]at hy;subst hy;exact .inr (.inl ⟨by omega,by simp⟩)
end
section
variable {main:Bool} {b:Frame} {a:Act} {kk:List Item} {cs:List Frame} {w:World} {ops:Array Oper} {i:Nat} {rest:List Nat} {o:Oper}
theorem Dc{x y:Operand}(ho:ops[i]? =some o)(hw:Region.wanted o (yielded ops a.tmps)=true)(hk:b.kind≠ .early)(hop:o.op= .store 9 x y){ad:Addr}{U:ByteArray}{u:Value}(hx:a.eval x= .pointer (some ad))(hy:a.eval y= .string U)(hc:w.cell? ad=some u)(hz:w.frozen? ad=false)(hq:(prog.funcs[b.fn]?).any (·.norace)=false):
 stepG prog main (G (b.at a (.inRegion ops (i::rest)::kk)) cs) w= .go (G (b.at (a.put o.dst undef) (.inRegion ops rest::kk)) cs) (w.setCell ad (.string U)) #[⟨.cell ad,true,false⟩]:=by
 have hr:(execOp a.eval o).run prog w= .ok .skip (w.setCell ad (.string U)):=by unfold execOp;simp only[hop,hx,hy];simp[go_sem,stored,hc,hz]
 have he:(execOp a.eval o).events prog w #[]= #[⟨.cell ad,true,false⟩]:=by unfold execOp;simp only[hop,hx,hy];have e:=events_store prog w #[] ad (.string U) .plain rfl;simp[go_sem,e,storedEv,hc,hz]
 rw[stepG_none ho hw hk hr];unfold listed;rw[he,Go.Conc.seen_eq hq (by simp)]
end
theorem LJ(T:Array Value):QuitsD prog 2 0 (G {b13.at ⟨T,[]⟩ []with mode:=.returning} [bot]):=by
 refine QuitsD.ctl (g':=G bot []) rfl (fun w=>?_) ?_
 ·simp[G,stepG,unwind,doReturn,results,Frame.at,b13,baseD,bot,func13,f13,seen,GStep.after,goexitEntry]
 refine QuitsD.ctl (g':={G bot []with status:=.finished}) rfl (fun w=>?_) ⟨rfl,rfl⟩;simp[G,stepG,unwind,bot,goexitEntry,Frame.catches];rfl
def WK (Wg C n:Nat) (w:World):Prop:=WgLive 47 Wg w∧PayAt C n w
theorem Kr{w w₁:World}(h:WK Wg C n w)(r:RW 47 Wg C n 0 (j+1-1) w w₁):WK Wg C n w₁:=⟨r.live h.1,r.pay h.2⟩
theorem Jh(hCW:C≠Wg)(hj:j<n)(afu:n≤16)(U:ByteArray)(cap:Nat)(v0 v1 v2 v3 v4 v5 v6 v7 v8 v9 v10 v11 v12 v15 v17:Value)(w:World)(hF:WK Wg C n w):
 Goes prog false (RW 47 Wg C n 0 (j+1-1)) (DWs Wg (yA C) NJ C n (j+1)) (AtR0 prog 47 Wg C n 0 (j+1) (.string U)) 28
  (G (b13.at ⟨#[v0,v1,v2,v3,v4,v5,v6,v7,v8,v9,v10,v11,v12,.slice (some ⟨C,0,none⟩) n cap,.int .i64 j,v15,.string U,v17],[dcall 14 #[.pointer (some ⟨Wg,0,none⟩)]]⟩ [.inRegion mR [4,5]]) [bot]) w:=by
 simp only[mR,qM,f13,Option.getD_some];have hlt:(j:Int)<(n:Int):=by omega
 have hj0:(0:Int)≤(j:Int):=by omega
 u_op Kr hF
 u_in Kr hF
 obtain⟨u,hu1,hu2⟩:=O6 hF.2 hj;rw[Dc rfl rfl (by decide) rfl rfl rfl hu1 hu2 vO];simp only[goes_go];refine⟨⟨xN hF.2 _,fun e he=>?_⟩,?_⟩
 ·rw[Array.mem_singleton]at he;subst he;exact QX
 have hK:=And.intro (let⟨st,sm,h⟩:=hF.1;(⟨st,sm,h.of_block ((aside_setCell _ ⟨C,j,none⟩ (.string U)).block Wg (by simpa using Ne.symm hCW))⟩:WgLive 47 Wg _)) (La hF.2 hj (.string U));clear hF hu1 hu2
 u_c stepG_region_end kn_rely hK
 u_c stepG_end kn_rely hK
 u_in kn_rely hK
 rw[stepG_unwind_enter rfl func14 (nm_done link) rfl];simp only[goes_go];refine⟨by u_nil,?_⟩
 walk_nrmf f14
 have hA:=@doneN _ link prog Ko (yA C) NJ Wg C n 0 (j+1) (.string U);simp only[body_done,doneFn,Option.getD_some]at hA;exact hA rfl (LJ _) _ hK
end Go.Proofs.YtheibfffilomcabGreatDoor
