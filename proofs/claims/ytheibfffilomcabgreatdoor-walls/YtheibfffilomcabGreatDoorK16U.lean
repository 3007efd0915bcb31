import Derived.Test.YtheibfffilomcabGreatDoorR4U
import Derived.Test.YtheibfffilomcabGreatDoorK14U
set_option linter.all false
set_option maxRecDepth 100000
set_option maxHeartbeats 4000000
namespace Go.Proofs.YtheibfffilomcabGreatDoor
open Go.Ren Go.Conc Go.ConcN Go.RowKit Go.Conc.Lib Go.ConcR.Gen Go.ConcN.Gen Go.Proofs.Tryz
variable {n cap k d:Nat} {L:List (Nat × Value)} {a:Act} {ao:Option Addr} {cs:List Frame} {v:Value}
open Go.ConcR (KK wgBlock WgAt stA smA rd wr Payload Aside2 DC0 ofEvent_cell)
set_option linter.unusedSimpArgs false
set_option linter.unusedVariables false
def SQ (P:Program) (Q:Goroutine→World→Prop) (a:Goroutine) (w:World):Prop:=∃N a' w',(∀t,runNT P N (solo a w) t=(.next (solo a' w'),t))∧Q a' w'
theorem SQ.stop{P:Program}{Q:Goroutine→World→Prop}{a:Goroutine}{w:World}(h:Q a w):SQ P Q a w:=⟨0,a,w,fun t=>rfl,h⟩
theorem SQ.step{P:Program}{Q:Goroutine→World→Prop}{a a':Goroutine}{w w':World}(hr:a.status= .running)(hs:stepG P true a w= .go a' w' #[])(h:SQ P Q a' w'):SQ P Q a w:=by obtain⟨N,a2,w2,h1,h2⟩:=h;refine⟨N+1,a2,w2,fun t=>?_,h2⟩;rw[runNT,stepT_solo hr,runT_solo_go hs];simp only[MemOp.ofEvents];simpa using h1 t
section
variable {Q:Goroutine→World→Prop} {w w':World} {b:Frame} {a:Act} {kk:List Item} {cs:List Frame} {ops:Array Oper} {i:Nat} {rest:List Nat} {o:Oper} {v:Value}
theorem IP(ho:ops[i]? =some o)(hw:Region.wanted o (yielded ops a.tmps)=true)(hk:b.kind≠ .early)(hv:(execOp a.eval o).run prog w= .ok (.value v) w')(he:(execOp a.eval o).events prog w #[]= #[])(h:SQ prog Q (G (b.at (a.put o.dst v) (.inRegion ops rest::kk)) cs) w'):
 SQ prog Q (G (b.at a (.inRegion ops (i::rest)::kk)) cs) w:=
 SQ.step rfl (by rw[stepG_value ho hw hk hv];unfold listed;rw[he,seen_none]) h
theorem Ku{x:Operand}(ho:ops[i]? =some o)(hw:Region.wanted o (yielded ops a.tmps)=true)(hk:b.kind≠ .early)(hop:o.op= .move x∨o.op= .assign x)(hx:a.eval x=v)(h:SQ prog Q (G (b.at (a.put o.dst v) (.inRegion ops rest::kk)) cs) w):
 SQ prog Q (G (b.at a (.inRegion ops (i::rest)::kk)) cs) w:=by
 refine IP ho hw hk ?_ ?_ h
 ·unfold execOp;rcases hop with e|e<;>(simp only[e,hx];rfl)
 ·unfold execOp;rcases hop with e|e<;>(simp only[e,hx];rfl)
end
def Xx (w:World) (rb cb db n:Nat) (gv:Value) (cs:List Frame) (g:Goroutine) (w':World):Prop:=
 w'=w.alloc (wgBlock 47 0 0)∧∃(x0 x1 x5 x6 x7 x10 x11 x12 x13 x14 x15 x16 x17 x18 x19 x20 x21 x25 x26 x27 x28 x29 x30 x31 x32 x33:Value),g=G (b5.at ⟨#[x0,x1,gv,.pointer (some ⟨rb,0,none⟩),.pointer (some ⟨cb,0,none⟩),x5,x6,x7,.pointer (some ⟨db,0,none⟩),.pointer (some ⟨w.heap.size,0,none⟩),x10,x11,x12,x13,x14,x15,x16,x17,x18,x19,x20,x21,gv,.int .i64 n,.int .i64 ((0:Nat):Int),x25,x26,x27,x28,x29,x30,x31,x32,x33],[]⟩ [.code LB,.inLoop LB,.inBlock 0,.code MW]) cs
theorem Jf{rb cb db:Nat}{gv:Value}(hgv:gv= .slice ao n cap)(x0 x1 x5 x6 x7 x9 x10 x11 x12 x13 x14 x15 x16 x17 x18 x19 x20 x21 x22 x23 x24 x25 x26 x27 x28 x29 x30 x31 x32 x33:Value)(w:World):
 SQ prog (Xx w rb cb db n gv cs) (G (b5.at ⟨#[x0,x1,gv,.pointer (some ⟨rb,0,none⟩),.pointer (some ⟨cb,0,none⟩),x5,x6,x7,.pointer (some ⟨db,0,none⟩),x9,x10,x11,x12,x13,x14,x15,x16,x17,x18,x19,x20,x21,x22,x23,x24,x25,x26,x27,x28,x29,x30,x31,x32,x33],[]⟩ [.inRegion z6 [0],.code TL6]) cs) w:=by
 have afy:gv= .slice ao n cap:=hgv;refine IP (v:=.pointer (some ⟨w.heap.size,0,none⟩)) (w':=w.alloc (wgBlock 47 0 0)) adF rfl (by decide) (by unfold execOp;simp[Act.eval,go_sem,wgBlock]) (by unfold execOp;simp[Act.eval,go_sem]) ?_
 walk_nrm
 refine SQ.step rfl stepG_region_end ?_;unfold TL6;refine SQ.step rfl stepG_seq ?_;refine SQ.step rfl stepG_seq ?_;refine SQ.step rfl stepG_region ?_;rw[s7];refine Ku adG rfl (by decide) (.inl rfl) rfl ?_
 walk_nrm
 refine IP (v:=.int .i64 n) (w':=w.alloc (wgBlock 47 0 0)) adH rfl (by decide) (by subst hgv;unfold execOp;simp[Act.eval,go_sem]) (by subst hgv;unfold execOp;simp[Act.eval,go_sem]) ?_
 walk_nrm
 refine Ku adI rfl (by decide) (.inl rfl) rfl ?_
 walk_nrm
 refine SQ.step rfl stepG_region_end ?_;refine SQ.step rfl stepG_block ?_;refine SQ.step rfl stepG_loop ?_;exact SQ.stop ⟨rfl,_,_,_,_,_,_,_,_,_,_,_,_,_,_,_,_,_,_,_,_,_,_,_,_,_,_,rfl⟩
theorem oU{P:Program}{m' m'':Machine}{t' t'':Trace}{K:Nat}:∀{N:Nat} {m:Machine} {t:Trace},runNT P N m t=(.next m',t')→runNT P K m' t'=(.next m'',t'')→runNT P (N+K) m t=(.next m'',t'')
 | 0,m,t,h,hk=>by simp only[runNT,Prod.mk.injEq,Stepped.next.injEq]at h;obtain⟨rfl,rfl⟩:=h;rw[lG];exact hk
 |N+1,m,t,h,hk=>by
  rw[Nat.succ_add,runNT];rw[runNT]at h;cases hs:stepT P m with
  |mk s ops=>
   rw[hs]at h;cases s with
   |next m1=>exact oU h hk
   |_=>simp at h
theorem MP{N0:Nat}{F0:List (Nat × Obj)}{rows aa gb:Nat}{S:Nat→Prop}{g:Goroutine}{w:World}{u:Trace}{Ts Us:Nat→ByteArray}(hM:JO N0 F0 rows aa n (.slice ao n cap) cs S g w)(hr:1≤rows∧rows≤12)(hc:1≤aa∧aa≤40)(hn:n≤16)(hgv:0<n→ao=some ⟨gb,0,none⟩∧gb<N0)(hx:∀k,k<n→w.cell? ⟨gb,k,none⟩=some (.string (Ts k)))(hT:∀k,k<n→(Ts k).size≤281474976710656)(hU:∀k,k<n→bl (Us k)=Ba ((agR.fresh rows aa).feed (bl (Ts k))).t)(h7:7≤N0)(hg:fD w)(ht:iE w)(hu:Alone w.heap.size u):
 ∃N m' t',runNT prog N (solo g w) u=(.next m',t')∧∃C,N0≤C∧(∀x∈F0,x.1≠C)∧
  ∃(gs:Array Goroutine) (w':World) (sl:Option (Nat × Nat)) (a:Goroutine) (qs:Nat→Nat) (T:Array Value) (db:Nat),m'=crowd gs w' sl∧gs[0]? =some a∧Leavers prog t' gs qs∧Gw w.heap.size t'∧V9 db T∧Go.Conc.Goes prog true AtRel DC0 (fun g' _=>g'=LV T cs) 30 a w'∧
  C<w.heap.size∧db<w.heap.size∧w'.heap[db]? =some (.cells #[.slice (some ⟨C,0,none⟩) n n] 24)∧(∀i,i<n→w'.cell? ⟨C,i,none⟩=some (.string (Us i)))∧(∀b,b<w.heap.size→b≠C→w'.heap[b]? =w.heap[b]?)∧w.heap.size<w'.heap.size∧w'.os=w.os∧w'.output=w.output∧w'.tape=w.tape:=by
 obtain⟨rb,cb,C,db,x0,x1,x5,x6,x7,x9,x10,x11,x12,x13,x14,x15,x16,x17,x18,x19,x20,x21,x22,x23,x24,x25,x26,x27,x28,x29,x30,x31,x32,x33,rfl,hF⟩:=hM;obtain⟨N1,a1,w1,h1,rfl,x0,x1,x5,x6,x7,x10,x11,x12,x13,x14,x15,x16,x17,x18,x19,x20,x21,x25,x26,x27,x28,x29,x30,x31,x32,x33,rfl⟩:=Jf (ao:=ao) (cap:=cap) (rb:=rb) (cb:=cb) (db:=db) (n:=n) (cs:=cs) rfl x0 x1 x5 x6 x7 x9 x10 x11 x12 x13 x14 x15 x16 x17 x18 x19 x20 x21 x22 x23 x24 x25 x26 x27 x28 x29 x30 x31 x32 x33 w;have o1:=hF.ord;simp only[List.pairwise_cons]at o1;obtain⟨p1,p2,p3,p4,p5⟩:=o1;have Ri:=hF.own _ List.mem_cons_self;have kC:=hF.own _ (List.mem_cons_of_mem _ List.mem_cons_self);have kcb:=hF.own _ (List.mem_cons_of_mem _ (List.mem_cons_of_mem _ List.mem_cons_self));have krb:=hF.own _ (List.mem_cons_of_mem _ (List.mem_cons_of_mem _ (List.mem_cons_of_mem _ List.mem_cons_self)));simp only at Ri kC kcb krb;have lt:∀{b:Nat} {o:Obj},w.heap[b]? =some o→b<w.heap.size:=fun h=>(kP.1 h).1;have keep:∀b,b<w.heap.size→(w.alloc (wgBlock 47 0 0)).heap[b]? =w.heap[b]? :=fun b hb=>h_ _ _ _ hb;have hsz:(w.alloc (wgBlock 47 0 0)).heap.size=w.heap.size+1:=by simp
 let q:WP:={Wg:=w.heap.size,C:=C,n:=n,B0:=w.heap.size+1,rb:=rb,cb:=cb,db:=db,gb:=gb,cap:=cap,rows:=rows,aa:=aa,gv:=.slice ao n cap,Ts:=Ts,Us:=Us,w0:=w.alloc (wgBlock 47 0 0),cs:=cs};have hlo:=hF.lo;have nrb:rb≠C:=fun e=>p2 (rb,.cells #[.int .i64 rows] 3) (by simp) e.symm;have ncb:cb≠C:=fun e=>p2 (cb,.cells #[.int .i64 aa] 3) (by simp) e.symm;have ndb:db≠C:=p1 (C,.cells (madeCells #[.string ⟨#[]⟩] n) 9) (by simp);have lrb:=lt krb.2.1;have lcb:=lt kcb.2.1;have ldb:=lt Ri.2.1;have lC:=lt kC.2.1;have nF:∀x∈F0,x.1≠C:=fun x hx e=>p2 x (by simp[hx]) e.symm;have gbF:∀k,k<n→gb<w.heap.size∧gb≠C:=fun k hk=>by obtain⟨_,ho⟩:=hgv (by omega);have:=kC.2.2;exact⟨by omega,by omega⟩
 have hq:q.Ok:=by refine⟨by show 7≤w.heap.size+1;omega,by show 7≤w.heap.size;omega,by show 7≤C;omega,by show w.heap.size<w.heap.size+1;omega,by show C<w.heap.size+1;omega,by show C≠w.heap.size;omega,⟨by show rb<w.heap.size+1;omega,by show rb≠w.heap.size;omega,nrb⟩,⟨by show cb<w.heap.size+1;omega,by show cb≠w.heap.size;omega,ncb⟩,⟨by show db<w.heap.size+1;omega,by show db≠w.heap.size;omega,ndb⟩,hn,hr,hc,fun h0=>?_,hT,hU⟩;have h0':0<n:=h0;obtain⟨e,ho⟩:=hgv h0';obtain⟨l1,l2⟩:=gbF 0 h0';exact⟨by show Value.slice ao n cap=_;rw[e],by show gb<w.heap.size+1;omega,by show gb≠w.heap.size;omega,l2⟩
 have hb:BK q (w.alloc (wgBlock 47 0 0)):=by
  refine⟨?_,?_,?_,fun k hk=>?_,fun b hb=>?_,ht.kept fun k hk=>keep k (by omega),by show w.heap.size+1≤_;rw[hsz];exact bE _⟩
  ·exact(cell_of_block (keep _ lrb) 0).trans (iN krb.2.1).1
  ·exact(cell_of_block (keep _ lcb) 0).trans (iN kcb.2.1).1
  ·exact(cell_of_block (keep _ ldb) 0).trans (iN Ri.2.1).1
  ·have hk':k<n:=hk;exact(cell_of_block (keep _ (gbF k hk').1) k).trans (hx k hk')
  ·obtain⟨o,ho,y⟩:=hg b hb;exact⟨o,(keep b (lt ho)).trans ho,y⟩
 have hge:=OW hq n 0 (lG n) x0 x1 x5 x6 x7 x10 x11 x12 x13 x14 x15 x16 x17 x18 x19 x20 x21 x25 x26 x27 x28 x29 x30 x31 x32 x33 (w.alloc (wgBlock 47 0 0)) hb;have hpre:Pre q.c.Wg (w.alloc (wgBlock 47 0 0)).heap.size u:=by
  refine⟨hu.g,fun op ho x hx=>?_,fun op ho=>?_⟩
  ·obtain⟨b,h1,h2⟩:=hu.t op ho x hx;exact⟨b,h1,by rw[hsz];omega,by show b≠w.heap.size;omega⟩
  ·refine⟨fun e=>?_,fun e=>?_,fun e=>?_⟩<;>exact absurd (hu.m op ho _ e) (by simp[xn])
 obtain⟨μ,hI⟩:=dR.start (c:=q.c) (sl:=none) (geo hq) hge (by show(w.alloc (wgBlock 47 0 0)).heap[w.heap.size]? =_;exact bJ _ _) ⟨_,(keep C lC).trans kC.2.1,size_madeCells _ _⟩ rfl (by show w.heap.size+1≤_;rw[hsz];exact bE _) hpre;obtain⟨N2,m',t',h2,gs,w',sl,a,qs,rfl,g0,⟨T,hT',hfin⟩,hL,hP,hpay,hhas,hkeep,hos,hout,Zb,hB⟩:=dR.runs (geo hq) hI;refine⟨N1+N2,_,t',?_,C,kC.2.2,nF,gs,w',sl,a,qs,T,db,rfl,g0,hL,hP,hT',hfin,lC,ldb,?_,hhas,?_,?_,hos,hout,Zb⟩
 ·refine oU (h1 u) ?_;rw[solo_eq_crowd];exact h2
 ·exact(hkeep db hq.d).trans ((keep db ldb).trans Ri.2.1)
 ·intro b hb hne;exact(hkeep b ⟨by show b<w.heap.size+1;omega,by show b≠w.heap.size;omega,hne⟩).trans (keep b hb)
 ·have:w.heap.size+1≤w'.heap.size:=hB;omega
open Go.ConcR (KK wgBlock WgAt stA smA rd wr Payload Aside2 DC0 ofEvent_cell)
set_option linter.unusedSimpArgs false
set_option linter.unusedVariables false
def b3:Frame:=base 3
theorem xu:(prog.funcs[b3.fn]?).any (·.norace)=false:=by kernel_rfl
noncomputable def lI:Code:=f3.body.getD .skip
noncomputable def e0:Array Oper:=match lI with| .seq (.region _ ops _) _=>ops|_=>#[]
noncomputable def e1:Array Oper:=match lI with| .seq _ (.seq (.region _ ops _) _)=>ops|_=>#[]
noncomputable def e2:Array Oper:=match lI with| .seq _ (.seq _ (.seq (.seq (.region _ ops _) _) _))=>ops|_=>#[]
noncomputable def e6:Array Oper:=match lI with| .seq _ (.seq _ (.seq _ (.seq (.region _ ops _) _)))=>ops|_=>#[]
noncomputable def e7:Array Oper:=match lI with| .seq _ (.seq _ (.seq _ (.seq _ (.seq (.seq (.region _ ops _) _) _))))=>ops|_=>#[]
noncomputable def e8:Array Oper:=match lI with| .seq _ (.seq _ (.seq _ (.seq _ (.seq (.seq _ (.cond _ (.seq (.region _ ops _) _) _)) _))))=>ops|_=>#[]
noncomputable def e9:Array Oper:=match lI with| .seq _ (.seq _ (.seq _ (.seq _ (.seq _ (.seq (.seq (.region _ ops _) _) _)))))=>ops|_=>#[]
noncomputable def e18:Array Oper:=match lI with| .seq _ (.seq _ (.seq _ (.seq _ (.seq _ (.seq _ (.seq (.region _ ops _) _))))))=>ops|_=>#[]
noncomputable def LA:Code:=match lI with| .seq _ (.seq _ (.seq (.seq _ (.block _ (.loop c))) _))=>c|_=>.skip
noncomputable def LC:Code:=match lI with| .seq _ (.seq _ (.seq _ (.seq _ (.seq _ (.seq (.seq _ (.block _ (.loop c))) _)))))=>c|_=>.skip
noncomputable def e3:Array Oper:=match LA with| .seq (.seq (.region _ ops _) _) _=>ops|_=>#[]
noncomputable def e5:Array Oper:=match LA with| .seq _ (.seq (.block _ (.region _ ops _)) _)=>ops|_=>#[]
noncomputable def e4:Array Oper:=match LA with| .seq _ (.seq _ (.region _ ops _))=>ops|_=>#[]
noncomputable def e10:Array Oper:=match LC with| .seq (.seq (.region _ ops _) _) _=>ops|_=>#[]
noncomputable def e11:Array Oper:=match LC with| .seq _ (.seq _ (.region _ ops _))=>ops|_=>#[]
noncomputable def e12:Array Oper:=match LC with| .seq _ (.seq (.block _ (.seq (.region _ ops _) _)) _)=>ops|_=>#[]
noncomputable def e13:Array Oper:=match LC with| .seq _ (.seq (.block _ (.seq _ (.seq (.seq (.region _ ops _) _) _))) _)=>ops|_=>#[]
noncomputable def e14:Array Oper:=match LC with| .seq _ (.seq (.block _ (.seq _ (.seq (.seq _ (.cond _ (.seq (.region _ ops _) _) _)) _))) _)=>ops|_=>#[]
noncomputable def e15:Array Oper:=match LC with| .seq _ (.seq (.block _ (.seq _ (.seq _ (.seq (.region _ ops _) _)))) _)=>ops|_=>#[]
noncomputable def e16:Array Oper:=match LC with| .seq _ (.seq (.block _ (.seq _ (.seq _ (.seq _ (.seq (.region _ ops _) _))))) _)=>ops|_=>#[]
noncomputable def e17:Array Oper:=match LC with| .seq _ (.seq (.block _ (.seq _ (.seq _ (.seq _ (.seq _ (.cond _ (.seq (.region _ ops _) _) _)))))) _)=>ops|_=>#[]
noncomputable def RC:Code:=.seq (.seq (.region 9 e9 false) (.block 2 (.loop LC))) (.seq (.region 18 e18 false) .ret)
noncomputable def RB:Code:=.seq (.seq (.region 7 e7 false) (.cond (.tmp 47) (.seq (.region 8 e8 false) .ret) .skip)) RC
noncomputable def RA:Code:=.seq (.region 6 e6 true) RB
theorem N_:lI= .seq (.region 0 e0 false) (.seq (.region 1 e1 false) (.seq (.seq (.region 2 e2 false) (.block 0 (.loop LA))) RA)):=rfl
theorem Xq:LA= .seq (.seq (.region 3 e3 false) (.cond (.tmp 20) .skip (.exit 0))) (.seq (.block 1 (.region 5 e5 false)) (.region 4 e4 false)):=rfl
theorem Xr:LC= .seq (.seq (.region 10 e10 false) (.cond (.tmp 51) .skip (.exit 2))) (.seq (.block 3 (.seq (.region 12 e12 true) (.seq (.seq (.region 13 e13 false) (.cond (.tmp 65) (.seq (.region 14 e14 false) .ret) .skip)) (.seq (.region 15 e15 false) (.seq (.region 16 e16 false) (.cond (.tmp 73) (.seq (.region 17 e17 false) .ret) .skip)))))) (.region 11 e11 false)):=rfl
theorem rg0:List.range e0.size=[0,1]:=rfl
theorem abp:e0[0]? =some {dst:=some 2,op:=.box 23 (.tmp 0),type:=0,pos:= "keeps.go:323",after:=#[],guard:=none}:=rfl
theorem abq:e0[1]? =some {dst:=some 4,op:=.assign (.const (.bool false)),type:=4,pos:= "keeps.go:323",after:=#[],guard:=none}:=rfl
theorem rg1:List.range e1.size=[0]:=rfl
theorem abr:e1[0]? =some {dst:=some 5,op:=.assign (.const (.slice none 0 0)),type:=24,pos:= "keeps.go:324",after:=#[],guard:=none}:=rfl
theorem rg2:List.range e2.size=[0]:=rfl
theorem abt:e2[0]? =some {dst:=some 6,op:=.assign (.const (.int .i64 0)),type:=3,pos:= "keeps.go:325",after:=#[],guard:=none}:=rfl
theorem rg3:List.range e3.size=[0,1,2,3,4,5,6,7]:=rfl
theorem TR:e3[0]? =some {dst:=some 13,op:=.move (.tmp 6),type:=3,pos:= "keeps.go:325",after:=#[],guard:=none}:=rfl
theorem TT:e3[1]? =some {dst:=some 14,op:=.move (.tmp 1),type:=24,pos:= "keeps.go:325",after:=#[],guard:=none}:=rfl
theorem TU:e3[2]? =some {dst:=some 15,op:=.call {callee:=.builtin .len,args:=#[.tmp 14],argTypes:=#[24]},type:=3,pos:= "keeps.go:325",after:=#[{on:=1,ground:=.data}],guard:=none}:=rfl
theorem TW:e3[3]? =some {dst:=some 16,op:=.binOp .lss 3 (.tmp 13) (.tmp 15) 3,type:=4,pos:= "keeps.go:325",after:=#[{on:=0,ground:=.data},{on:=2,ground:=.data}],guard:=none}:=rfl
theorem TY:e3[4]? =some {dst:=some 17,op:=.move (.tmp 16),type:=4,pos:= "keeps.go:325",after:=#[{on:=3,ground:=.data}],guard:=none}:=rfl
theorem TZ:e3[5]? =some {dst:=some 18,op:=.move (.tmp 6),type:=3,pos:= "keeps.go:325",after:=#[{on:=4,ground:=.guard}],guard:=some (4,true)}:=rfl
theorem T9:e3[6]? =some {dst:=some 19,op:=.binOp .lss 3 (.tmp 18) (.const (.int .i64 16)) 3,type:=4,pos:= "keeps.go:325",after:=#[{on:=5,ground:=.data},{on:=4,ground:=.guard}],guard:=some (4,true)}:=rfl
theorem T_:e3[7]? =some {dst:=some 20,op:=.pick (.tmp 17) (.tmp 19) (.const (.bool false)),type:=4,pos:= "keeps.go:325",after:=#[{on:=4,ground:=.data},{on:=6,ground:=.data}],guard:=none}:=rfl
theorem rg4:List.range e4.size=[0,1,2]:=rfl
theorem abu:e4[0]? =some {dst:=some 21,op:=.move (.tmp 6),type:=3,pos:= "keeps.go:325",after:=#[],guard:=none}:=rfl
theorem abv:e4[1]? =some {dst:=some 22,op:=.binOp .add 3 (.tmp 21) (.const (.int .i64 1)) 3,type:=3,pos:= "keeps.go:325",after:=#[{on:=0,ground:=.data}],guard:=none}:=rfl
theorem abw:e4[2]? =some {dst:=some 6,op:=.assign (.tmp 22),type:=3,pos:= "keeps.go:325",after:=#[{on:=1,ground:=.data},{on:=0,ground:=.phase},{on:=1,ground:=.phase}],guard:=none}:=rfl
theorem rg5:List.range e5.size=[0,1,2,3,4,5,6,7]:=rfl
theorem abx:e5[0]? =some {dst:=some 23,op:=.move (.tmp 5),type:=24,pos:= "keeps.go:326",after:=#[],guard:=none}:=rfl
theorem aby:e5[1]? =some {dst:=some 24,op:=.move (.tmp 1),type:=24,pos:= "keeps.go:326",after:=#[],guard:=none}:=rfl
theorem abz:e5[2]? =some {dst:=some 25,op:=.move (.tmp 6),type:=3,pos:= "keeps.go:326",after:=#[],guard:=none}:=rfl
theorem abA:e5[3]? =some {dst:=some 26,op:=.indexAddr 24 (.tmp 24) (.tmp 25),type:=0,pos:= "keeps.go:326",after:=#[{on:=1,ground:=.data},{on:=2,ground:=.data}],guard:=none}:=rfl
theorem abB:e5[4]? =some {dst:=some 27,op:=.load 9 (.tmp 26),type:=9,pos:= "keeps.go:326",after:=#[{on:=3,ground:=.data}],guard:=none}:=rfl
theorem abC:e5[5]? =some {dst:=some 28,op:=.buildSlice 24 1 #[(0,.tmp 27)],type:=24,pos:= "keeps.go:326",after:=#[{on:=4,ground:=.data}],guard:=none}:=rfl
theorem abD:e5[6]? =some {dst:=some 29,op:=.call {callee:=.builtin .append,args:=#[.tmp 23,.tmp 28],argTypes:=#[24,24]},type:=24,pos:= "keeps.go:326",after:=#[{on:=0,ground:=.data},{on:=5,ground:=.data}],guard:=none}:=rfl
theorem abE:e5[7]? =some {dst:=some 5,op:=.assign (.tmp 29),type:=24,pos:= "keeps.go:326",after:=#[{on:=6,ground:=.data},{on:=6,ground:=.chain},{on:=0,ground:=.phase},{on:=1,ground:=.phase},{on:=2,ground:=.phase},{on:=3,ground:=.phase},{on:=4,ground:=.phase},{on:=5,ground:=.phase},{on:=6,ground:=.phase}],guard:=none}:=rfl
theorem abF:e6[0]? =some {dst:=some 31,op:=.load 23 (.tmp 2),type:=23,pos:= "keeps.go:328",after:=#[],guard:=none}:=rfl
theorem abG:e6[1]? =some {dst:=some 32,op:=.call {callee:=.value (.func 6),args:=#[.tmp 31],argTypes:=#[23]},type:=3,pos:= "keeps.go:328",after:=#[{on:=0,ground:=.data}],guard:=none}:=rfl
theorem abH:e6[2]? =some {dst:=some 33,op:=.load 23 (.tmp 2),type:=23,pos:= "keeps.go:328",after:=#[],guard:=none}:=rfl
theorem abI:e6[3]? =some {dst:=some 34,op:=.call {callee:=.value (.func 7),args:=#[.tmp 33],argTypes:=#[23]},type:=3,pos:= "keeps.go:328",after:=#[{on:=2,ground:=.data},{on:=1,ground:=.chain}],guard:=none}:=rfl
theorem abJ:e6[4]? =some {dst:=some 35,op:=.move (.tmp 5),type:=24,pos:= "keeps.go:328",after:=#[],guard:=none}:=rfl
theorem abK:e6[5]? =some {dst:=some 36,op:=.call {callee:=.value (.func 5),args:=#[.tmp 32,.tmp 34,.tmp 35],argTypes:=#[3,3,24]},type:=26,pos:= "keeps.go:328",after:=#[{on:=1,ground:=.data},{on:=3,ground:=.data},{on:=4,ground:=.data},{on:=3,ground:=.chain}],guard:=none}:=rfl
theorem Ua:e6[6]? =some {dst:=some 30,op:=.move (.tmp 36),type:=26,pos:= "keeps.go:328",after:=#[{on:=5,ground:=.data}],guard:=none}:=rfl
theorem Ub:e6[7]? =some {dst:=some 37,op:=.extract (.tmp 30) 0,type:=24,pos:= "keeps.go:328",after:=#[{on:=6,ground:=.data}],guard:=none}:=rfl
theorem Uc:e6[8]? =some {dst:=some 38,op:=.extract (.tmp 30) 1,type:=25,pos:= "keeps.go:328",after:=#[{on:=6,ground:=.data},{on:=9,ground:=.gcOnly Go.Departure.lateStores}],guard:=none}:=rfl
theorem Ud:e6[9]? =some {dst:=some 7,op:=.assign (.tmp 37),type:=24,pos:= "keeps.go:328",after:=#[{on:=7,ground:=.data},{on:=5,ground:=.chain},{on:=0,ground:=.phase},{on:=1,ground:=.phase},{on:=2,ground:=.phase},{on:=3,ground:=.phase},{on:=4,ground:=.phase},{on:=5,ground:=.phase},{on:=6,ground:=.phase},{on:=7,ground:=.phase},{on:=8,ground:=.textOnly Go.Departure.lateStores}],guard:=none}:=rfl
theorem Oi:e6[10]? =some {dst:=some 8,op:=.assign (.tmp 38),type:=25,pos:= "keeps.go:328",after:=#[{on:=8,ground:=.data},{on:=9,ground:=.chain},{on:=0,ground:=.phase},{on:=1,ground:=.phase},{on:=2,ground:=.phase},{on:=3,ground:=.phase},{on:=4,ground:=.phase},{on:=5,ground:=.phase},{on:=6,ground:=.phase},{on:=7,ground:=.phase},{on:=8,ground:=.phase},{on:=9,ground:=.phase}],guard:=none}:=rfl
theorem rg7:List.range e7.size=[0,1,2,3,4,5,6,7,8]:=rfl
theorem abL:e7[0]? =some {dst:=some 39,op:=.move (.tmp 8),type:=25,pos:= "keeps.go:329",after:=#[],guard:=none}:=rfl
theorem abM:e7[1]? =some {dst:=some 40,op:=.binOp .neq 25 (.tmp 39) (.const (.int .i64 0)) 25,type:=4,pos:= "keeps.go:329",after:=#[{on:=0,ground:=.data}],guard:=none}:=rfl
theorem abN:e7[2]? =some {dst:=some 41,op:=.move (.tmp 40),type:=4,pos:= "keeps.go:329",after:=#[{on:=1,ground:=.data}],guard:=none}:=rfl
theorem abO:e7[3]? =some {dst:=some 42,op:=.move (.tmp 7),type:=24,pos:= "keeps.go:329",after:=#[{on:=2,ground:=.guard}],guard:=some (2,false)}:=rfl
theorem abP:e7[4]? =some {dst:=some 43,op:=.call {callee:=.builtin .len,args:=#[.tmp 42],argTypes:=#[24]},type:=3,pos:= "keeps.go:329",after:=#[{on:=3,ground:=.data},{on:=2,ground:=.guard}],guard:=some (2,false)}:=rfl
theorem abQ:e7[5]? =some {dst:=some 44,op:=.move (.tmp 5),type:=24,pos:= "keeps.go:329",after:=#[{on:=2,ground:=.guard}],guard:=some (2,false)}:=rfl
theorem abR:e7[6]? =some {dst:=some 45,op:=.call {callee:=.builtin .len,args:=#[.tmp 44],argTypes:=#[24]},type:=3,pos:= "keeps.go:329",after:=#[{on:=5,ground:=.data},{on:=2,ground:=.guard}],guard:=some (2,false)}:=rfl
theorem abS:e7[7]? =some {dst:=some 46,op:=.binOp .neq 3 (.tmp 43) (.tmp 45) 3,type:=4,pos:= "keeps.go:329",after:=#[{on:=4,ground:=.data},{on:=6,ground:=.data},{on:=2,ground:=.guard}],guard:=some (2,false)}:=rfl
theorem abT:e7[8]? =some {dst:=some 47,op:=.pick (.tmp 41) (.const (.bool true)) (.tmp 46),type:=4,pos:= "keeps.go:329",after:=#[{on:=2,ground:=.data},{on:=7,ground:=.data}],guard:=none}:=rfl
theorem rg9:List.range e9.size=[0]:=rfl
theorem abU:e9[0]? =some {dst:=some 9,op:=.assign (.const (.int .i64 0)),type:=3,pos:= "keeps.go:332",after:=#[],guard:=none}:=rfl
theorem ZQ:List.range e10.size=[0,1,2,3]:=rfl
theorem Sr:e10[0]? =some {dst:=some 48,op:=.move (.tmp 9),type:=3,pos:= "keeps.go:332",after:=#[],guard:=none}:=rfl
theorem Su:e10[1]? =some {dst:=some 49,op:=.move (.tmp 5),type:=24,pos:= "keeps.go:332",after:=#[],guard:=none}:=rfl
theorem Sv:e10[2]? =some {dst:=some 50,op:=.call {callee:=.builtin .len,args:=#[.tmp 49],argTypes:=#[24]},type:=3,pos:= "keeps.go:332",after:=#[{on:=1,ground:=.data}],guard:=none}:=rfl
theorem Sw:e10[3]? =some {dst:=some 51,op:=.binOp .lss 3 (.tmp 48) (.tmp 50) 3,type:=4,pos:= "keeps.go:332",after:=#[{on:=0,ground:=.data},{on:=2,ground:=.data}],guard:=none}:=rfl
theorem ac3:List.range e11.size=[0,1,2]:=rfl
theorem XJ:e11[0]? =some {dst:=some 52,op:=.move (.tmp 9),type:=3,pos:= "keeps.go:332",after:=#[],guard:=none}:=rfl
theorem XK:e11[1]? =some {dst:=some 53,op:=.binOp .add 3 (.tmp 52) (.const (.int .i64 1)) 3,type:=3,pos:= "keeps.go:332",after:=#[{on:=0,ground:=.data}],guard:=none}:=rfl
theorem XL:e11[2]? =some {dst:=some 9,op:=.assign (.tmp 53),type:=3,pos:= "keeps.go:332",after:=#[{on:=1,ground:=.data},{on:=0,ground:=.phase},{on:=1,ground:=.phase}],guard:=none}:=rfl
theorem Sy:e12[0]? =some {dst:=some 55,op:=.load 23 (.tmp 2),type:=23,pos:= "keeps.go:333",after:=#[],guard:=none}:=rfl
theorem XM:e12[1]? =some {dst:=some 56,op:=.move (.tmp 5),type:=24,pos:= "keeps.go:333",after:=#[],guard:=none}:=rfl
theorem XN:e12[2]? =some {dst:=some 57,op:=.move (.tmp 9),type:=3,pos:= "keeps.go:333",after:=#[],guard:=none}:=rfl
theorem XO:e12[3]? =some {dst:=some 58,op:=.indexAddr 24 (.tmp 56) (.tmp 57),type:=0,pos:= "keeps.go:333",after:=#[{on:=1,ground:=.data},{on:=2,ground:=.data}],guard:=none}:=rfl
theorem XP:e12[4]? =some {dst:=some 59,op:=.load 9 (.tmp 58),type:=9,pos:= "keeps.go:333",after:=#[{on:=3,ground:=.data}],guard:=none}:=rfl
theorem XQ:e12[5]? =some {dst:=some 60,op:=.buildSlice 24 1 #[(0,.tmp 59)],type:=24,pos:= "keeps.go:333",after:=#[{on:=4,ground:=.data}],guard:=none}:=rfl
theorem XR:e12[6]? =some {dst:=some 61,op:=.call {callee:=.value (.func 8),args:=#[.tmp 55,.tmp 60],argTypes:=#[23,24]},type:=30,pos:= "keeps.go:333",after:=#[{on:=0,ground:=.data},{on:=5,ground:=.data}],guard:=none}:=rfl
theorem Oe:e12[7]? =some {dst:=some 54,op:=.move (.tmp 61),type:=30,pos:= "keeps.go:333",after:=#[{on:=6,ground:=.data}],guard:=none}:=rfl
theorem Og:e12[8]? =some {dst:=some 62,op:=.extract (.tmp 54) 0,type:=29,pos:= "keeps.go:333",after:=#[{on:=7,ground:=.data}],guard:=none}:=rfl
theorem Oh:e12[9]? =some {dst:=some 63,op:=.extract (.tmp 54) 1,type:=4,pos:= "keeps.go:333",after:=#[{on:=7,ground:=.data},{on:=10,ground:=.gcOnly Go.Departure.lateStores}],guard:=none}:=rfl
theorem G5:e12[10]? =some {dst:=some 10,op:=.assign (.tmp 62),type:=29,pos:= "keeps.go:333",after:=#[{on:=8,ground:=.data},{on:=6,ground:=.chain},{on:=0,ground:=.phase},{on:=1,ground:=.phase},{on:=2,ground:=.phase},{on:=3,ground:=.phase},{on:=4,ground:=.phase},{on:=5,ground:=.phase},{on:=6,ground:=.phase},{on:=7,ground:=.phase},{on:=8,ground:=.phase},{on:=9,ground:=.textOnly Go.Departure.lateStores}],guard:=none}:=rfl
theorem G6:e12[11]? =some {dst:=some 11,op:=.assign (.tmp 63),type:=4,pos:= "keeps.go:333",after:=#[{on:=9,ground:=.data},{on:=10,ground:=.chain},{on:=0,ground:=.phase},{on:=1,ground:=.phase},{on:=2,ground:=.phase},{on:=3,ground:=.phase},{on:=4,ground:=.phase},{on:=5,ground:=.phase},{on:=6,ground:=.phase},{on:=7,ground:=.phase},{on:=8,ground:=.phase},{on:=9,ground:=.phase},{on:=10,ground:=.phase}],guard:=none}:=rfl
theorem ac4:List.range e13.size=[0,1]:=rfl
theorem XT:e13[0]? =some {dst:=some 64,op:=.move (.tmp 11),type:=4,pos:= "keeps.go:334",after:=#[],guard:=none}:=rfl
theorem XU:e13[1]? =some {dst:=some 65,op:=.unOp .not 4 (.tmp 64),type:=4,pos:= "keeps.go:334",after:=#[{on:=0,ground:=.data}],guard:=none}:=rfl
theorem ac5:List.range e15.size=[0,1,2]:=rfl
theorem XV:e15[0]? =some {dst:=some 66,op:=.move (.tmp 10),type:=29,pos:= "keeps.go:337",after:=#[],guard:=none}:=rfl
theorem XW:e15[1]? =some {dst:=some 67,op:=.call {callee:=.value (.func 9),args:=#[.tmp 66],argTypes:=#[29]},type:=9,pos:= "keeps.go:337",after:=#[{on:=0,ground:=.data}],guard:=none}:=rfl
theorem XX:e15[2]? =some {dst:=some 12,op:=.assign (.tmp 67),type:=9,pos:= "keeps.go:337",after:=#[{on:=1,ground:=.data},{on:=1,ground:=.chain},{on:=0,ground:=.phase},{on:=1,ground:=.phase}],guard:=none}:=rfl
theorem ac6:List.range e16.size=[0,1,2,3,4,5]:=rfl
theorem XY:e16[0]? =some {dst:=some 68,op:=.move (.tmp 12),type:=9,pos:= "keeps.go:338",after:=#[],guard:=none}:=rfl
theorem XZ:e16[1]? =some {dst:=some 69,op:=.move (.tmp 7),type:=24,pos:= "keeps.go:338",after:=#[],guard:=none}:=rfl
theorem X4:e16[2]? =some {dst:=some 70,op:=.move (.tmp 9),type:=3,pos:= "keeps.go:338",after:=#[],guard:=none}:=rfl
theorem X5:e16[3]? =some {dst:=some 71,op:=.indexAddr 24 (.tmp 69) (.tmp 70),type:=0,pos:= "keeps.go:338",after:=#[{on:=1,ground:=.data},{on:=2,ground:=.data}],guard:=none}:=rfl
theorem X6:e16[4]? =some {dst:=some 72,op:=.load 9 (.tmp 71),type:=9,pos:= "keeps.go:338",after:=#[{on:=3,ground:=.data}],guard:=none}:=rfl
theorem X7:e16[5]? =some {dst:=some 73,op:=.binOp .neq 9 (.tmp 68) (.tmp 72) 9,type:=4,pos:= "keeps.go:338",after:=#[{on:=0,ground:=.data},{on:=4,ground:=.data}],guard:=none}:=rfl
theorem ac7:List.range e18.size=[0]:=rfl
theorem X8:e18[0]? =some {dst:=some 4,op:=.assign (.const (.bool true)),type:=4,pos:= "keeps.go:342",after:=#[],guard:=none}:=rfl
structure Kn (n:Nat) (L:List (Nat × Value)) (a:Act):Prop where
 sz:a.tmps.size=n
 df:a.defers=[]
 kn:∀p∈L,a.tmps[p.1]? =some p.2
theorem Kn.get(h:Kn n L a)(hm:(k,v)∈L):a.eval (.tmp k)=v:=by have:=h.kn _ hm;simp only at this;simp[Act.eval,this]
theorem Kn.at(h:Kn n L a)(hm:(k,v)∈L):a.tmps[k]? =some v:=h.kn _ hm
theorem Kn.sub{L':List (Nat × Value)}(h:Kn n L a)(hs:∀p∈L',p∈L):Kn n L' a:=⟨h.sz,h.df,fun p hp=>h.kn p (hs p hp)⟩
theorem Kn.put(h:Kn n L a)(hd:d<n)(hL:(L.all fun p=>p.1 != d)=true)(v:Value):Kn n ((d,v)::L) (a.put (some d) v):=by
 refine⟨by simp[Act.put,h.sz],by simp[Act.put,h.df],fun p hp=>?_⟩;rcases di.1 hp with rfl|hp
 ·simp only[Act.put];rw[Array.getElem?_setIfInBounds_self_of_lt (by rw[h.sz];exact hd)]
 ·have hne:p.1≠d:=by have:=List.all_eq_true.1 hL p hp;simpa using this
  simp only[Act.put];rw[Array.getElem?_setIfInBounds_ne (fun e=>hne e.symm)];exact h.kn p hp
theorem ai{o:Oper}{y:Nat→Option Bool}(h:o.guard=none):Region.wanted o y=true:=by simp[Region.wanted,h]
theorem Kn.wanted(h:Kn n L a){ops:Array Oper}{o:Oper}{j:Nat}{t t':Bool}(hg:o.guard=some (j,t))(hd:(ops[j]?).bind (·.dst)=some d)(hm:(d,.bool t')∈L):Region.wanted o (yielded ops a.tmps)=(t'==t):=by have:=h.kn _ hm;simp only at this;simp[Region.wanted,hg,yielded,hd,this]
section
variable {main:Bool} {Bs S:Nat→Prop} {Stop:(Nat→Prop)→Goroutine→World→Prop} {w:World} {b:Frame} {a:Act} {kk:List Item} {cs:List Frame} {ops:Array Oper} {i:Nat} {rest:List Nat} {o:Oper} {n:Nat} {L:List (Nat × Value)} {d:Nat} {v:Value}
theorem bZ(hK:Kn n L a)(ho:ops[i]? =some o)(hw:Region.wanted o (yielded ops a.tmps)=true)(hk:b.kind≠ .early)(hdst:o.dst=some d)(hd:d<n)(hL:(L.all fun p=>p.1 != d)=true)(hv:∀w,(execOp a.eval o).run prog w= .ok (.value v) w∧(execOp a.eval o).events prog w #[]= #[])(h:∀a' w₁,RY (fun b=>Bs b∨S b) w w₁→Kn n ((d,v)::L) a'→GE prog main Bs Stop S (G (b.at a' (.inRegion ops rest::kk)) cs) w₁):
 GE prog main Bs Stop S (G (b.at a (.inRegion ops (i::rest)::kk)) cs) w:=
 nV ho hw hk (fun w=>(hv w).1) (fun w=>(hv w).2) fun w₁ y=>by rw[hdst];exact h _ w₁ y (hK.put hd hL v)
theorem aR{x:Operand}(hK:Kn n L a)(ho:ops[i]? =some o)(hw:Region.wanted o (yielded ops a.tmps)=true)(hk:b.kind≠ .early)(hop:o.op= .move x∨o.op= .assign x)(hx:a.eval x=v)(hdst:o.dst=some d)(hd:d<n)(hL:(L.all fun p=>p.1 != d)=true)(h:∀a' w₁,RY (fun b=>Bs b∨S b) w w₁→Kn n ((d,v)::L) a'→GE prog main Bs Stop S (G (b.at a' (.inRegion ops rest::kk)) cs) w₁):
 GE prog main Bs Stop S (G (b.at a (.inRegion ops (i::rest)::kk)) cs) w:=
 lT ho hw hk hop hx fun w₁ y=>by rw[hdst];exact h _ w₁ y (hK.put hd hL v)
theorem J9(hK:Kn n L a)(ho:ops[i]? =some o)(hw:Region.wanted o (yielded ops a.tmps)=false)(hdst:o.dst=some d)(hd:d<n)(hL:(L.all fun p=>p.1 != d)=true)(h:∀a' w₁,RY (fun b=>Bs b∨S b) w w₁→Kn n ((d,undef)::L) a'→GE prog main Bs Stop S (G (b.at a' (.inRegion ops rest::kk)) cs) w₁):
 GE prog main Bs Stop S (G (b.at a (.inRegion ops (i::rest)::kk)) cs) w:=
 au rfl (fun _=>stepG_unwanted ho hw) fun w₁ y=>by rw[hdst];exact h _ w₁ y (hK.put hd hL undef)
theorem Ow{o₀:Obj}{v:World→Value}(hK:Kn n L a)(ho:ops[i]? =some o)(hw:Region.wanted o (yielded ops a.tmps)=true)(hk:b.kind≠ .early)(hdst:o.dst=some d)(hd:d<n)(hL:(L.all fun p=>p.1 != d)=true)(hr:∀w,(execOp a.eval o).run prog w= .ok (.value (v w)) (w.alloc o₀)∧(execOp a.eval o).events prog w #[]= #[])(h:∀a' w₁ S',RY (fun b=>Bs b∨S b) w w₁→(∀b,S b→S' b)→S' w₁.heap.size→Kn n ((d,v w₁)::L) a'→GE prog main Bs Stop S' (G (b.at a' (.inRegion ops rest::kk)) cs) (w₁.alloc o₀)):
 GE prog main Bs Stop S (G (b.at a (.inRegion ops (i::rest)::kk)) cs) w:=
 yS ho hw hk (fun w=>(hr w).1) (fun w=>(hr w).2) fun w₁ S' y h1 h2=>by rw[hdst];exact h _ w₁ S' y h1 h2 (hK.put hd hL (v w₁))
theorem J8{t:TypeId}(ht:t=3∨t=9∨t=24){x:Operand}{ad:Addr}(hK:Kn n L a)(ho:ops[i]? =some o)(hw:Region.wanted o (yielded ops a.tmps)=true)(hk:b.kind≠ .early)(hop:o.op= .load t x)(hx:a.eval x= .pointer (some ad))(hB:Bs ad.block∨S ad.block)(hc:∀w₁,RY (fun b=>Bs b∨S b) w w₁→w₁.cell? ad=some v)(hq:(prog.funcs[b.fn]?).any (·.norace)=false)(hdst:o.dst=some d)(hd:d<n)(hL:(L.all fun p=>p.1 != d)=true)(h:∀a' w₁,RY (fun b=>Bs b∨S b) w w₁→Kn n ((d,v)::L) a'→GE prog main Bs Stop S (G (b.at a' (.inRegion ops rest::kk)) cs) w₁):
 GE prog main Bs Stop S (G (b.at a (.inRegion ops (i::rest)::kk)) cs) w:=
 GE.read rfl hB fun w₁ y=>⟨jQ ht ho hw hk hop hx (hc w₁ y) hq,by rw[hdst];exact h _ w₁ y (hK.put hd hL v)⟩
theorem xY{x:Operand}{sb:Nat}{p q:Int}(hK:Kn n L a)(ho:ops[i]? =some o)(hw:Region.wanted o (yielded ops a.tmps)=true)(hk:b.kind≠ .early)(hop:o.op= .load 23 x)(hx:a.eval x= .pointer (some ⟨sb,0,none⟩))(hB:Bs sb∨S sb)(hc:w.heap[sb]? =some (.cells #[.int .i64 p,.int .i64 q] 23))(hq:(prog.funcs[b.fn]?).any (·.norace)=false)(hdst:o.dst=some d)(hd:d<n)(hL:(L.all fun p=>p.1 != d)=true)(h:∀a' w₁,RY (fun b=>Bs b∨S b) w w₁→Kn n ((d,.agg #[.int .i64 p,.int .i64 q])::L) a'→GE prog main Bs Stop S (G (b.at a' (.inRegion ops rest::kk)) cs) w₁):
 GE prog main Bs Stop S (G (b.at a (.inRegion ops (i::rest)::kk)) cs) w:=by
 refine GE.step rfl fun w₁ y=>?_;have hc1:w₁.heap[sb]? =some (.cells #[.int .i64 p,.int .i64 q] 23):=(y.keep sb hB).trans hc;have c0:w₁.cell? ⟨sb,0,none⟩=some (.int .i64 p):=by simp[World.cell?,hc1]
 have c1:w₁.cell? ⟨sb,1,none⟩=some (.int .i64 q):=by simp[World.cell?,hc1]
 have hr:(execOp a.eval o).run prog w₁= .ok (.value (.agg #[.int .i64 p,.int .i64 q])) w₁:=by unfold execOp;simp only[hop,hx];simp[go_sem,c0,c1]
 have he:(execOp a.eval o).events prog w₁ #[]= #[⟨.cell ⟨sb,0,none⟩,false,false⟩,⟨.cell ⟨sb,1,none⟩,false,false⟩]:=by unfold execOp;simp only[hop,hx];simp[go_sem,c0,c1]
 have hl:listed prog b.fn a o w₁= #[⟨.cell ⟨sb,0,none⟩,false,false⟩,⟨.cell ⟨sb,1,none⟩,false,false⟩]:=by unfold listed;rw[he,Go.Conc.seen_eq hq (by simp)]
 refine⟨_,_,_,stepG_value ho hw hk hr,?_,by rw[gV,hdst];exact h _ w₁ y (hK.put hd hL _)⟩;rw[hl];refine⟨fun _ _ _=>rfl,bE _,rfl,rfl,rfl,fun e he=>?_⟩;simp only[List.mem_toArray,di,eU,eX]at he;have:S sb∨(w₁.heap.size≤sb∧sb<w₁.heap.size)∨(Bs sb∧False=False):=hB.elim (fun x=>.inr (.inr ⟨x,rfl⟩)) .inl;rcases he with rfl|rfl
 ·exact .inl ⟨_,rfl,this.imp id (Or.imp id fun z=>⟨z.1,rfl⟩)⟩
 ·exact .inl ⟨_,rfl,this.imp id (Or.imp id fun z=>⟨z.1,rfl⟩)⟩
end
end Go.Proofs.YtheibfffilomcabGreatDoor
