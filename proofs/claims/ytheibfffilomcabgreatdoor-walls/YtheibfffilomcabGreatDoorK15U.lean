import Derived.Test.YtheibfffilomcabGreatDoorEvnU
import Derived.Test.YtheibfffilomcabGreatDoorK13
import Derived.Conc.AppendWalk
set_option linter.all false
set_option maxRecDepth 100000
set_option maxHeartbeats 8000000
namespace Go.Proofs.YtheibfffilomcabGreatDoor
open Go.Ren Go.Conc Go.ConcN Go.RowKit Go.Conc.Lib Go.ConcR.Gen Go.ConcN.Gen Go.Proofs.Tryz
variable {n cap:Nat} {ao:Option Addr} {cs:List Frame}
open Go.ConcR (KK wgBlock WgAt stA smA rd wr Payload Aside2 DC0 ofEvent_cell)
set_option linter.unusedSimpArgs false
set_option linter.unusedVariables false
structure FB (N0:Nat) (F:List (Nat × Obj)) (S:Nat→Prop) (w:World):Prop where
 own:∀x∈F,S x.1∧w.heap[x.1]? =some x.2∧N0≤x.1
 ord:F.Pairwise fun x y=>x.1≠y.1
 lo:N0≤w.heap.size
section
variable {N0:Nat} {F:List (Nat × Obj)} {Bs S S':Nat→Prop} {w w₁:World}
theorem FB.rely(h:FB N0 F S w)(y:RY (fun b=>Bs b∨S b) w w₁):FB N0 F S w₁:=
 ⟨fun x hx=>⟨(h.own x hx).1,(y.keep x.1 (.inr (h.own x hx).1)).trans (h.own x hx).2.1,(h.own x hx).2.2⟩,h.ord,fA h.lo y.size⟩
theorem FB.lt(h:FB N0 F S w){x:Nat × Obj}(hx:x∈F):x.1<w.heap.size:=(kP.1 (h.own x hx).2.1).1
theorem FB.new(h:FB N0 F S w)(hS:∀b,S b→S' b)(hn:S' w.heap.size)(o:Obj):FB N0 ((w.heap.size,o)::F) S' (w.alloc o):=by
 refine⟨fun x hx=>?_,List.pairwise_cons.2 ⟨fun x hx=>Nat.ne_of_gt (h.lt hx),h.ord⟩,by simp;exact Nat.le_succ_of_le h.lo⟩;rcases di.1 hx with rfl|hx
 ·exact⟨hn,bJ _ _,h.lo⟩
 ·obtain⟨h1,h2,h3⟩:=h.own x hx;exact⟨hS _ h1,(h_ _ _ _ (h.lt hx)).trans h2,h3⟩
theorem FB.put{b:Nat}{t:TypeId}{u:Value}(h:FB N0 ((b,.cells #[u] t)::F) S w)(v:Value):FB N0 ((b,.cells #[v] t)::F) S (w.setCell ⟨b,0,none⟩ v):=by
 have hA:=aside_setCell w ⟨b,0,none⟩ v;obtain⟨h1,h2⟩:=List.pairwise_cons.1 h.ord;refine⟨fun x hx=>?_,List.pairwise_cons.2 ⟨h1,h2⟩,by rw[hA.size];exact h.lo⟩;rcases di.1 hx with rfl|hx
 ·obtain⟨k1,k2,k3⟩:=h.own (b,.cells #[u] t) (by simp);exact⟨k1,Da k2 v,k3⟩
 ·obtain⟨k1,k2,k3⟩:=h.own x (by simp[hx]);exact⟨k1,(hA.block x.1 (fun e=>h1 x hx e.symm)).trans k2,k3⟩
end
theorem OD:(prog.info? 9).map (fun i=>(i.zero,i.size,i.bytes))=some (some (.string ⟨#[]⟩),1,16):=by kernel_rfl
theorem run_mk{a:Act}(hn:n≤16)(h20:a.eval (.tmp 20)= .int .i64 n)(w:World)(o:Oper)(ho:o.op= .makeSlice 24 (.tmp 20) (.tmp 20)):
 (execOp a.eval o).run prog w= .ok (.value (.slice (some ⟨w.heap.size,0,none⟩) n n)) (w.alloc (.cells (madeCells #[.string ⟨#[]⟩] n) 9))∧(execOp a.eval o).events prog w #[]= #[]:=by
 obtain⟨i,h1,h2,h3,h4⟩:=info_parts OD;have r:=run_make (P:=prog) w 24 9 i _ underlying24 h1 h2 .i64 .i64 (n:Int) (n:Int) (by omega) (by omega) (by rw[h4];omega) (by omega);have e:=events_make (P:=prog) w 24 9 i _ underlying24 h1 h2 .i64 .i64 (n:Int) (n:Int) (by omega) (by omega) (by rw[h4];omega) (by omega) (by rw[h4];simp;omega) #[];rw[h3]at r;simp only[wQ,Nat.mul_one,Value.cells]at r;unfold execOp;simp only[ho,h20];exact⟨by simp[go_sem,r],by simp[go_sem,r,e]⟩
noncomputable def TL6:Code:=.seq (.seq (.region 7 z7 false) (.block 0 (.loop LB))) MR
def JL (N0:Nat) (F0:List (Nat × Obj)) (rows aa n:Nat) (gv:Value) (cs:List Frame) (S:Nat→Prop) (g:Goroutine) (w:World):Prop:=
 ∃(rb cb C db:Nat) (x0 x1 x5 x6 x7 x9 x10 x11 x12 x13 x14 x15 x16 x17 x18 x19 x20 x21 x22 x23 x24 x25 x26 x27 x28 x29 x30 x31 x32 x33:Value),g=G (b5.at ⟨#[x0,x1,gv,.pointer (some ⟨rb,0,none⟩),.pointer (some ⟨cb,0,none⟩),x5,x6,x7,.pointer (some ⟨db,0,none⟩),x9,x10,x11,x12,x13,x14,x15,x16,x17,x18,x19,x20,x21,x22,x23,x24,x25,x26,x27,x28,x29,x30,x31,x32,x33],[]⟩ [.inRegion z6 [0],.code TL6]) cs∧
  FB N0 ((db,.cells #[.slice (some ⟨C,0,none⟩) n n] 24)::(C,.cells (madeCells #[.string ⟨#[]⟩] n) 9)::(cb,.cells #[.int .i64 aa] 3)::(rb,.cells #[.int .i64 rows] 3)::F0) S w
section
variable {Bs S:Nat→Prop}
theorem Qd{rows aa n cap:Nat}{ao:Option Addr}{cs:List Frame}(hr:1≤rows∧rows≤12)(hc:1≤aa∧aa≤40)(hn:n≤16){w:World}{N0:Nat}{F0:List (Nat × Obj)}(hF:FB N0 F0 S w):
 GE prog true Bs (JL N0 F0 rows aa n (.slice ao n cap) cs) S (G (b5.at ⟨#[.int .i64 rows,.int .i64 aa,.slice ao n cap,undef,undef,undef,undef,undef,undef,undef,undef,undef,undef,undef,undef,undef,undef,undef,undef,undef,undef,undef,undef,undef,undef,undef,undef,undef,undef,undef,undef,undef,undef,undef],[]⟩ [.code mI]) cs) w:=by
 have hnz:¬((16:Int)<(n:Int)):=by omega
 rw[N8];refine au rfl (fun _=>stepG_seq) fun w₁ y=>?_
 replace hF:=hF.rely y
 clear y;refine au rfl (fun _=>stepG_region) fun w₁ y=>?_
 replace hF:=hF.rely y
 clear y;rw[s0];refine yS (o₀:=.cells #[.int .i64 rows] 3) (v:=fun w=>.pointer (some ⟨w.heap.size,0,none⟩)) adk rfl (by decide) (fun w=>by unfold execOp;simp[Act.eval,go_sem]) (fun w=>by unfold execOp;simp[Act.eval,go_sem]) fun w₁ S y hS hnw=>?_
 replace hF:=(hF.rely y).new hS hnw (.cells #[.int .i64 rows] 3)
 clear hS hnw y
 walk_nrm
 generalize w₁.heap.size=rb at hF ⊢;generalize (w₁.alloc (.cells #[.int .i64 rows] 3))=w at hF ⊢;refine yS (o₀:=.cells #[.int .i64 aa] 3) (v:=fun w=>.pointer (some ⟨w.heap.size,0,none⟩)) adl rfl (by decide) (fun w=>by unfold execOp;simp[Act.eval,go_sem]) (fun w=>by unfold execOp;simp[Act.eval,go_sem]) fun w₁ S y hS hnw=>?_
 replace hF:=(hF.rely y).new hS hnw (.cells #[.int .i64 aa] 3)
 clear hS hnw y
 walk_nrm
 generalize w₁.heap.size=cb at hF ⊢;generalize (w₁.alloc (.cells #[.int .i64 aa] 3))=w at hF ⊢;refine lT adm rfl (by decide) (.inr rfl) rfl fun w₁ y=>?_
 replace hF:=hF.rely y
 clear y
 walk_nrm
 refine lT adn rfl (by decide) (.inr rfl) rfl fun w₁ y=>?_
 replace hF:=hF.rely y
 clear y
 walk_nrm
 refine au rfl (fun _=>stepG_region_end) fun w₁ y=>?_
 replace hF:=hF.rely y
 clear y;refine au rfl (fun _=>stepG_seq) fun w₁ y=>?_
 replace hF:=hF.rely y
 clear y;refine au rfl (fun _=>stepG_seq) fun w₁ y=>?_
 replace hF:=hF.rely y
 clear y;refine au rfl (fun _=>stepG_region) fun w₁ y=>?_
 replace hF:=hF.rely y
 clear y;rw[s1];refine GE.read (ad:=⟨rb,0,none⟩) rfl (.inr (hF.own _ (List.mem_cons_of_mem _ (List.mem_cons_self))).1) fun w₁ y=>⟨jQ (.inl rfl) ado rfl (by decide) rfl rfl (iN ((hF.rely y).own _ (List.mem_cons_of_mem _ (List.mem_cons_self))).2.1).1 yY,?_⟩
 replace hF:=hF.rely y
 clear y
 walk_nrm
 refine GE.read (ad:=⟨cb,0,none⟩) rfl (.inr (hF.own _ (List.mem_cons_self)).1) fun w₁ y=>⟨jQ (.inl rfl) adp rfl (by decide) rfl rfl (iN ((hF.rely y).own _ (List.mem_cons_self)).2.1).1 yY,?_⟩
 replace hF:=hF.rely y
 clear y
 walk_nrm
 refine K6 (by decide) hr hc rfl rfl fun w₁ y=>?_
 replace hF:=hF.rely y
 clear y
 walk_nrm
 refine nV (v:=.bool false) adr rfl (by decide) (fun w=>by unfold execOp;simp[Act.eval,go_sem]) (fun w=>by unfold execOp;simp[Act.eval,go_sem]) fun w₁ y=>?_
 replace hF:=hF.rely y
 clear y
 walk_nrm
 refine au rfl (fun _=>stepG_region_end) fun w₁ y=>?_
 replace hF:=hF.rely y
 clear y;refine au rfl (fun _=>stepG_cond (t:=false) rfl) fun w₁ y=>?_
 replace hF:=hF.rely y
 clear y;simp only[Bool.false_eq_true, ↓reduceIte];refine au rfl (fun _=>stepG_skip) fun w₁ y=>?_
 replace hF:=hF.rely y
 clear y;refine au rfl (fun _=>stepG_seq) fun w₁ y=>?_
 replace hF:=hF.rely y
 clear y;refine au rfl (fun _=>stepG_seq) fun w₁ y=>?_
 replace hF:=hF.rely y
 clear y;refine au rfl (fun _=>stepG_region) fun w₁ y=>?_
 replace hF:=hF.rely y
 clear y;rw[s3];refine lT ads rfl (by decide) (.inl rfl) rfl fun w₁ y=>?_
 replace hF:=hF.rely y
 clear y
 walk_nrm
 refine nV (v:=.int .i64 n) adt rfl (by decide) (fun w=>by unfold execOp;simp[Act.eval,go_sem]) (fun w=>by unfold execOp;simp[Act.eval,go_sem]) fun w₁ y=>?_
 replace hF:=hF.rely y
 clear y
 walk_nrm
 refine nV (v:=.bool false) adu rfl (by decide) (fun w=>by unfold execOp;simp[Act.eval,go_sem,hnz]) (fun w=>by unfold execOp;simp[Act.eval,go_sem,hnz]) fun w₁ y=>?_
 replace hF:=hF.rely y
 clear y
 walk_nrm
 refine au rfl (fun _=>stepG_region_end) fun w₁ y=>?_
 replace hF:=hF.rely y
 clear y;refine au rfl (fun _=>stepG_cond (t:=false) rfl) fun w₁ y=>?_
 replace hF:=hF.rely y
 clear y;simp only[Bool.false_eq_true, ↓reduceIte];refine au rfl (fun _=>stepG_skip) fun w₁ y=>?_
 replace hF:=hF.rely y
 clear y;refine au rfl (fun _=>stepG_seq) fun w₁ y=>?_
 replace hF:=hF.rely y
 clear y;refine au rfl (fun _=>stepG_region) fun w₁ y=>?_
 replace hF:=hF.rely y
 clear y;rw[s5];refine lT adv rfl (by decide) (.inl rfl) rfl fun w₁ y=>?_
 replace hF:=hF.rely y
 clear y
 walk_nrm
 refine nV (v:=.int .i64 n) adw rfl (by decide) (fun w=>by unfold execOp;simp[Act.eval,go_sem]) (fun w=>by unfold execOp;simp[Act.eval,go_sem]) fun w₁ y=>?_
 replace hF:=hF.rely y
 clear y
 walk_nrm
 refine yS (o₀:=.cells (madeCells #[.string ⟨#[]⟩] n) 9) (v:=fun w=>.slice (some ⟨w.heap.size,0,none⟩) n n) adx rfl (by decide) (fun w=>(run_mk hn rfl w _ rfl).1) (fun w=>(run_mk hn rfl w _ rfl).2) fun w₁ S y hS hnw=>?_
 replace hF:=(hF.rely y).new hS hnw (.cells (madeCells #[.string ⟨#[]⟩] n) 9)
 clear hS hnw y
 walk_nrm
 generalize w₁.heap.size=C at hF ⊢;generalize (w₁.alloc (.cells (madeCells #[.string ⟨#[]⟩] n) 9))=w at hF ⊢;refine yS (o₀:=.cells #[.slice none 0 0] 24) (v:=fun w=>.pointer (some ⟨w.heap.size,0,none⟩)) ady rfl (by decide) (fun w=>by unfold execOp;simp[Act.eval,go_sem]) (fun w=>by unfold execOp;simp[Act.eval,go_sem]) fun w₁ S y hS hnw=>?_
 replace hF:=(hF.rely y).new hS hnw (.cells #[.slice none 0 0] 24)
 clear hS hnw y
 walk_nrm
 generalize w₁.heap.size=db at hF ⊢;generalize (w₁.alloc (.cells #[.slice none 0 0] 24))=w at hF ⊢;refine UI (ad:=⟨db,0,none⟩) (v:=.slice (some ⟨C,0,none⟩) n n) (t:=24) (x:=.tmp 8) (y:=.tmp 21) adz rfl (by decide) (fun w u hu hz=>?_) (hF.own _ List.mem_cons_self).1 (fun w₁ y=>⟨_,iN ((hF.rely y).own _ List.mem_cons_self).2.1⟩) yY fun w₁ y=>?_
 ·have e:=events_store prog w #[] ⟨db,0,none⟩ (.slice (some ⟨C,0,none⟩) n n) .plain rfl;constructor
  ·unfold execOp;simp[Act.eval,go_sem,stored,hu,hz]
  ·unfold execOp;simp[Act.eval,go_sem,e,storedEv,hu,hz]
 replace hF:=(hF.rely y).put (.slice (some ⟨C,0,none⟩) n n)
 clear y
 walk_nrm
 generalize (w₁.setCell ⟨db,0,none⟩ (.slice (some ⟨C,0,none⟩) n n))=w at hF ⊢;refine au rfl (fun _=>stepG_region_end) fun w₁ y=>?_
 replace hF:=hF.rely y
 clear y;refine au rfl (fun _=>stepG_seq) fun w₁ y=>?_
 replace hF:=hF.rely y
 clear y;refine au rfl (fun _=>stepG_region) fun w₁ y=>?_
 replace hF:=hF.rely y
 clear y;rw[s6];refine GE.stop fun w₁ y=>⟨rb,cb,C,db,_,_,_,_,_,_,_,_,_,_,_,_,_,_,_,_,_,_,_,_,_,_,_,_,_,_,_,_,_,_,rfl,hF.rely y⟩
end
open Go.ConcR (KK wgBlock WgAt stA smA rd wr Payload Aside2 DC0 ofEvent_cell)
set_option linter.unusedSimpArgs false
set_option linter.unusedVariables false
def SQ (P:Program) (Q:Goroutine→World→Prop) (a:Goroutine) (w:World):Prop:=∃N a' w',(∀t,runNT P N (solo a w) t=(.next (solo a' w'),t))∧Q a' w'
theorem SQ.stop{P:Program}{Q:Goroutine→World→Prop}{a:Goroutine}{w:World}(h:Q a w):SQ P Q a w:=⟨0,a,w,fun t=>rfl,h⟩
theorem SQ.step{P:Program}{Q:Goroutine→World→Prop}{a a':Goroutine}{w w':World}(hr:a.status= .running)(hs:stepG P true a w= .go a' w' #[])(h:SQ P Q a' w'):SQ P Q a w:=by obtain⟨N,a2,w2,h1,h2⟩:=h;refine⟨N+1,a2,w2,fun t=>?_,h2⟩;rw[runNT,stepT_solo hr,runT_solo_go hs];simp only[MemOp.ofEvents];simpa using h1 t
section
variable {Q:Goroutine→World→Prop} {w w':World} {b:Frame} {a:Act} {kk:List Item} {cs:List Frame} {ops:Array Oper} {i:Nat} {rest:List Nat} {o:Oper} {v:Value}
theorem IL(ho:ops[i]? =some o)(hw:Region.wanted o (yielded ops a.tmps)=true)(hk:b.kind≠ .early)(hv:(execOp a.eval o).run prog w= .ok (.value v) w')(he:(execOp a.eval o).events prog w #[]= #[])(h:SQ prog Q (G (b.at (a.put o.dst v) (.inRegion ops rest::kk)) cs) w'):
 SQ prog Q (G (b.at a (.inRegion ops (i::rest)::kk)) cs) w:=
 SQ.step rfl (by rw[stepG_value ho hw hk hv];unfold listed;rw[he,seen_none]) h
theorem Kk{x:Operand}(ho:ops[i]? =some o)(hw:Region.wanted o (yielded ops a.tmps)=true)(hk:b.kind≠ .early)(hop:o.op= .move x∨o.op= .assign x)(hx:a.eval x=v)(h:SQ prog Q (G (b.at (a.put o.dst v) (.inRegion ops rest::kk)) cs) w):
 SQ prog Q (G (b.at a (.inRegion ops (i::rest)::kk)) cs) w:=by
 refine IL ho hw hk ?_ ?_ h
 ·unfold execOp;rcases hop with e|e<;>(simp only[e,hx];rfl)
 ·unfold execOp;rcases hop with e|e<;>(simp only[e,hx];rfl)
end
def Xt (w:World) (rb cb db n:Nat) (gv:Value) (cs:List Frame) (g:Goroutine) (w':World):Prop:=
 w'=w.alloc (wgBlock 47 0 0)∧∃(x0 x1 x5 x6 x7 x10 x11 x12 x13 x14 x15 x16 x17 x18 x19 x20 x21 x25 x26 x27 x28 x29 x30 x31 x32 x33:Value),g=G (b5.at ⟨#[x0,x1,gv,.pointer (some ⟨rb,0,none⟩),.pointer (some ⟨cb,0,none⟩),x5,x6,x7,.pointer (some ⟨db,0,none⟩),.pointer (some ⟨w.heap.size,0,none⟩),x10,x11,x12,x13,x14,x15,x16,x17,x18,x19,x20,x21,gv,.int .i64 n,.int .i64 ((0:Nat):Int),x25,x26,x27,x28,x29,x30,x31,x32,x33],[]⟩ [.code LB,.inLoop LB,.inBlock 0,.code MR]) cs
theorem Jd{rb cb db:Nat}{gv:Value}(hgv:gv= .slice ao n cap)(x0 x1 x5 x6 x7 x9 x10 x11 x12 x13 x14 x15 x16 x17 x18 x19 x20 x21 x22 x23 x24 x25 x26 x27 x28 x29 x30 x31 x32 x33:Value)(w:World):
 SQ prog (Xt w rb cb db n gv cs) (G (b5.at ⟨#[x0,x1,gv,.pointer (some ⟨rb,0,none⟩),.pointer (some ⟨cb,0,none⟩),x5,x6,x7,.pointer (some ⟨db,0,none⟩),x9,x10,x11,x12,x13,x14,x15,x16,x17,x18,x19,x20,x21,x22,x23,x24,x25,x26,x27,x28,x29,x30,x31,x32,x33],[]⟩ [.inRegion z6 [0],.code TL6]) cs) w:=by
 have aft:gv= .slice ao n cap:=hgv;refine IL (v:=.pointer (some ⟨w.heap.size,0,none⟩)) (w':=w.alloc (wgBlock 47 0 0)) adA rfl (by decide) (by unfold execOp;simp[Act.eval,go_sem,wgBlock]) (by unfold execOp;simp[Act.eval,go_sem]) ?_
 walk_nrm
 refine SQ.step rfl stepG_region_end ?_;unfold TL6;refine SQ.step rfl stepG_seq ?_;refine SQ.step rfl stepG_seq ?_;refine SQ.step rfl stepG_region ?_;rw[s7];refine Kk adB rfl (by decide) (.inl rfl) rfl ?_
 walk_nrm
 refine IL (v:=.int .i64 n) (w':=w.alloc (wgBlock 47 0 0)) adC rfl (by decide) (by subst hgv;unfold execOp;simp[Act.eval,go_sem]) (by subst hgv;unfold execOp;simp[Act.eval,go_sem]) ?_
 walk_nrm
 refine Kk adD rfl (by decide) (.inl rfl) rfl ?_
 walk_nrm
 refine SQ.step rfl stepG_region_end ?_;refine SQ.step rfl stepG_block ?_;refine SQ.step rfl stepG_loop ?_;exact SQ.stop ⟨rfl,_,_,_,_,_,_,_,_,_,_,_,_,_,_,_,_,_,_,_,_,_,_,_,_,_,_,rfl⟩
theorem oU{P:Program}{m' m'':Machine}{t' t'':Trace}{K:Nat}:∀{N:Nat} {m:Machine} {t:Trace},runNT P N m t=(.next m',t')→runNT P K m' t'=(.next m'',t'')→runNT P (N+K) m t=(.next m'',t'')
 | 0,m,t,h,hk=>by simp only[runNT,Prod.mk.injEq,Stepped.next.injEq]at h;obtain⟨rfl,rfl⟩:=h;rw[lG];exact hk
 |N+1,m,t,h,hk=>by
  rw[Nat.succ_add,runNT];rw[runNT]at h;cases hs:stepT P m with
  |mk s ops=>
   rw[hs]at h;cases s with
   |next m1=>exact oU h hk
   |_=>simp at h
theorem MM{N0:Nat}{F0:List (Nat × Obj)}{rows aa gb:Nat}{S:Nat→Prop}{g:Goroutine}{w:World}{u:Trace}{Ts Us:Nat→ByteArray}(hM:JL N0 F0 rows aa n (.slice ao n cap) cs S g w)(hr:1≤rows∧rows≤12)(hc:1≤aa∧aa≤40)(hn:n≤16)(hgv:0<n→ao=some ⟨gb,0,none⟩∧gb<N0)(hx:∀k,k<n→w.cell? ⟨gb,k,none⟩=some (.string (Ts k)))(hT:∀k,k<n→(Ts k).size≤281474976710656)(hU:∀k,k<n→bl (Us k)=A_ ((agM.fresh rows aa).feed (bl (Ts k))).t)(h7:7≤N0)(hg:fD w)(ht:iE w)(hu:Alone w.heap.size u):
 ∃N m' t',runNT prog N (solo g w) u=(.next m',t')∧∃C,N0≤C∧(∀x∈F0,x.1≠C)∧
  ∃(gs:Array Goroutine) (w':World) (sl:Option (Nat × Nat)) (a:Goroutine) (qs:Nat→Nat) (T:Array Value) (db:Nat),m'=crowd gs w' sl∧gs[0]? =some a∧Leavers prog t' gs qs∧Gu w.heap.size t'∧V5 db T∧Go.Conc.Goes prog true AtRel DC0 (fun g' _=>g'=LP T cs) 30 a w'∧
  C<w.heap.size∧db<w.heap.size∧w'.heap[db]? =some (.cells #[.slice (some ⟨C,0,none⟩) n n] 24)∧(∀i,i<n→w'.cell? ⟨C,i,none⟩=some (.string (Us i)))∧(∀b,b<w.heap.size→b≠C→w'.heap[b]? =w.heap[b]?)∧w.heap.size<w'.heap.size∧w'.os=w.os∧w'.output=w.output∧w'.tape=w.tape:=by
 obtain⟨rb,cb,C,db,x0,x1,x5,x6,x7,x9,x10,x11,x12,x13,x14,x15,x16,x17,x18,x19,x20,x21,x22,x23,x24,x25,x26,x27,x28,x29,x30,x31,x32,x33,rfl,hF⟩:=hM;obtain⟨N1,a1,w1,h1,rfl,x0,x1,x5,x6,x7,x10,x11,x12,x13,x14,x15,x16,x17,x18,x19,x20,x21,x25,x26,x27,x28,x29,x30,x31,x32,x33,rfl⟩:=Jd (ao:=ao) (cap:=cap) (rb:=rb) (cb:=cb) (db:=db) (n:=n) (cs:=cs) rfl x0 x1 x5 x6 x7 x9 x10 x11 x12 x13 x14 x15 x16 x17 x18 x19 x20 x21 x22 x23 x24 x25 x26 x27 x28 x29 x30 x31 x32 x33 w;have o1:=hF.ord;simp only[List.pairwise_cons]at o1;obtain⟨p1,p2,p3,p4,p5⟩:=o1;have Re:=hF.own _ List.mem_cons_self;have kC:=hF.own _ (List.mem_cons_of_mem _ List.mem_cons_self);have kcb:=hF.own _ (List.mem_cons_of_mem _ (List.mem_cons_of_mem _ List.mem_cons_self));have krb:=hF.own _ (List.mem_cons_of_mem _ (List.mem_cons_of_mem _ (List.mem_cons_of_mem _ List.mem_cons_self)));simp only at Re kC kcb krb;have lt:∀{b:Nat} {o:Obj},w.heap[b]? =some o→b<w.heap.size:=fun h=>(kP.1 h).1;have keep:∀b,b<w.heap.size→(w.alloc (wgBlock 47 0 0)).heap[b]? =w.heap[b]? :=fun b hb=>h_ _ _ _ hb;have hsz:(w.alloc (wgBlock 47 0 0)).heap.size=w.heap.size+1:=by simp
 let q:WP:={Wg:=w.heap.size,C:=C,n:=n,B0:=w.heap.size+1,rb:=rb,cb:=cb,db:=db,gb:=gb,cap:=cap,rows:=rows,aa:=aa,gv:=.slice ao n cap,Ts:=Ts,Us:=Us,w0:=w.alloc (wgBlock 47 0 0),cs:=cs};have hlo:=hF.lo;have nrb:rb≠C:=fun e=>p2 (rb,.cells #[.int .i64 rows] 3) (by simp) e.symm;have ncb:cb≠C:=fun e=>p2 (cb,.cells #[.int .i64 aa] 3) (by simp) e.symm;have ndb:db≠C:=p1 (C,.cells (madeCells #[.string ⟨#[]⟩] n) 9) (by simp);have lrb:=lt krb.2.1;have lcb:=lt kcb.2.1;have ldb:=lt Re.2.1;have lC:=lt kC.2.1;have nF:∀x∈F0,x.1≠C:=fun x hx e=>p2 x (by simp[hx]) e.symm;have gbF:∀k,k<n→gb<w.heap.size∧gb≠C:=fun k hk=>by obtain⟨_,ho⟩:=hgv (by omega);have:=kC.2.2;exact⟨by omega,by omega⟩
 have hq:q.Ok:=by refine⟨by show 7≤w.heap.size+1;omega,by show 7≤w.heap.size;omega,by show 7≤C;omega,by show w.heap.size<w.heap.size+1;omega,by show C<w.heap.size+1;omega,by show C≠w.heap.size;omega,⟨by show rb<w.heap.size+1;omega,by show rb≠w.heap.size;omega,nrb⟩,⟨by show cb<w.heap.size+1;omega,by show cb≠w.heap.size;omega,ncb⟩,⟨by show db<w.heap.size+1;omega,by show db≠w.heap.size;omega,ndb⟩,hn,hr,hc,fun h0=>?_,hT,hU⟩;have h0':0<n:=h0;obtain⟨e,ho⟩:=hgv h0';obtain⟨l1,l2⟩:=gbF 0 h0';exact⟨by show Value.slice ao n cap=_;rw[e],by show gb<w.heap.size+1;omega,by show gb≠w.heap.size;omega,l2⟩
 have hb:BK q (w.alloc (wgBlock 47 0 0)):=by
  refine⟨?_,?_,?_,fun k hk=>?_,fun b hb=>?_,ht.kept fun k hk=>keep k (by omega),by show w.heap.size+1≤_;rw[hsz];exact bE _⟩
  ·exact(cell_of_block (keep _ lrb) 0).trans (iN krb.2.1).1
  ·exact(cell_of_block (keep _ lcb) 0).trans (iN kcb.2.1).1
  ·exact(cell_of_block (keep _ ldb) 0).trans (iN Re.2.1).1
  ·have hk':k<n:=hk;exact(cell_of_block (keep _ (gbF k hk').1) k).trans (hx k hk')
  ·obtain⟨o,ho,y⟩:=hg b hb;exact⟨o,(keep b (lt ho)).trans ho,y⟩
 have hge:=OT hq n 0 (lG n) x0 x1 x5 x6 x7 x10 x11 x12 x13 x14 x15 x16 x17 x18 x19 x20 x21 x25 x26 x27 x28 x29 x30 x31 x32 x33 (w.alloc (wgBlock 47 0 0)) hb;have hpre:Pre q.c.Wg (w.alloc (wgBlock 47 0 0)).heap.size u:=by
  refine⟨hu.g,fun op ho x hx=>?_,fun op ho=>?_⟩
  ·obtain⟨b,h1,h2⟩:=hu.t op ho x hx;exact⟨b,h1,by rw[hsz];omega,by show b≠w.heap.size;omega⟩
  ·refine⟨fun e=>?_,fun e=>?_,fun e=>?_⟩<;>exact absurd (hu.m op ho _ e) (by simp[xn])
 obtain⟨μ,hI⟩:=dR.start (c:=q.c) (sl:=none) (geo hq) hge (by show(w.alloc (wgBlock 47 0 0)).heap[w.heap.size]? =_;exact bJ _ _) ⟨_,(keep C lC).trans kC.2.1,size_madeCells _ _⟩ rfl (by show w.heap.size+1≤_;rw[hsz];exact bE _) hpre;obtain⟨N2,m',t',h2,gs,w',sl,a,qs,rfl,g0,⟨T,hT',hfin⟩,hL,hP,hpay,hhas,hkeep,hos,hout,Y8,hB⟩:=dR.runs (geo hq) hI;refine⟨N1+N2,_,t',?_,C,kC.2.2,nF,gs,w',sl,a,qs,T,db,rfl,g0,hL,hP,hT',hfin,lC,ldb,?_,hhas,?_,?_,hos,hout,Y8⟩
 ·refine oU (h1 u) ?_;rw[solo_eq_crowd];exact h2
 ·exact(hkeep db hq.d).trans ((keep db ldb).trans Re.2.1)
 ·intro b hb hne;exact(hkeep b ⟨by show b<w.heap.size+1;omega,by show b≠w.heap.size;omega,hne⟩).trans (keep b hb)
 ·have:w.heap.size+1≤w'.heap.size:=hB;omega
end Go.Proofs.YtheibfffilomcabGreatDoor
