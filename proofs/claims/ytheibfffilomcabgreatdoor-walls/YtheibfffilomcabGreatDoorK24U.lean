import Derived.Test.YtheibfffilomcabGreatDoorEvnU
import Derived.Test.YtheibfffilomcabGreatDoorK21U
set_option linter.all false
set_option maxRecDepth 100000
set_option maxHeartbeats 4000000
namespace Go.Proofs.YtheibfffilomcabGreatDoor
open Go.Ren Go.Conc Go.ConcN Go.RowKit Go.Conc.Lib Go.ConcR.Gen Go.ConcN.Gen Go.Proofs.Tryz
variable {V w w₁:World} {p q:Int} {t:ByteArray} {fb:Nat}
open Go.ConcR (KK wgBlock WgAt stA smA rd wr Payload Aside2 DC0 ofEvent_cell)
set_option linter.unusedSimpArgs false
set_option linter.unusedVariables false
section
variable {N0 sb n cap:Nat} {p q:Int} {v:Value} {ao:Option Addr} {cs:List Frame} {Bs:Nat→Prop} {a:Act} {w:World}
theorem adf(hv:v= .slice ao n cap)(hn:n≤16)(hp: -9223372036854775808≤p∧p≤9223372036854775807)(hq: -9223372036854775808≤q∧q≤9223372036854775807)(h7:∀b,b<7→Bs b)(hs:Bs sb)(hd:∀b,Bs b→b<w.heap.size)(hF:FW N0 sb p q w)(hK:Kn 74 [(5,v),(2,.pointer (some ⟨sb,0,none⟩))] a):
 GE prog true Bs (StopB N0 sb n p q v cs) (fun _=>False) (G (b3.at a [.code RA]) cs) w:=by
 unfold RA;refine au rfl (fun _=>stepG_seq) fun w₁ y=>?_
 replace hd:=fun b hb=>aH (hd b hb) y.size
 replace hF:=Cv h7 hs hF y
 clear y;refine GE.draw rfl fun w₁ y=>⟨_,stepG_region_draw,?_⟩;have hm:=vT mixed e6 (w₁.tape w₁.drawn (.order b3.fn 6));exact Pm hv hn hp hq _ (fun _=>false) Bs a _ (List.all_eq_true.1 abg _ hm) h7 hs (fun b hb=>aH (hd b hb) y.size) (JZ h7 hs _ _ (fun b hb=>y.keep b (.inl hb)) y.size y.os hF) (hK.sub fun x hx=>by simpa[L6]using hx)
end
structure In3 (W:World) (p q:Int) (ao:Option Addr) (cap:Nat) (T:List ByteArray):Prop where
 p: -9223372036854775808≤p∧p≤9223372036854775807
 q: -9223372036854775808≤q∧q≤9223372036854775807
 x:TX W.heap.size ao T W
 s:∀t∈T,t.size≤281474976710656
 g:fD W
 t:iE W
 h7:7≤W.heap.size
def Gg (rows aa:Nat) (t:ByteArray):List Int:=A_ ((agM.fresh rows aa).feed (bl t)).t
def SL (W:World) (p q:Int) (T:List ByteArray) (Us:Nat→ByteArray) (m:Machine) (t:Trace):Prop:=
 ∃(gs:Array Goroutine) (w:World) (sl:Option (Nat × Nat)) (a0:Goroutine) (qs:Nat→Nat) (Tm:Array Value) (db C Wg sb gb cap:Nat) (v:Value) (a:Act) (rest:List Nat),
  m=crowd gs w sl∧gs[0]? =some a0∧Leavers prog t gs qs∧Gu Wg t∧V5 db Tm∧Mm.contains rest=true∧Kn 74 [(5,v),(2,.pointer (some ⟨sb,0,none⟩))] a∧
  Go.Conc.Goes prog true AtRel DC0 (fun g' _=>g'=LP Tm [b3.at a (.inRegion e6 (5::rest)::[.code RB])]) 30 a0 w∧
  w.heap[db]? =some (.cells #[.slice (some ⟨C,0,none⟩) (min T.length 16) (min T.length 16)] 24)∧(∀i,i<min T.length 16→w.cell? ⟨C,i,none⟩=some (.string (Us i)))∧
  w.heap[sb]? =some (.cells #[.int .i64 p,.int .i64 q] 23)∧(∃Tu,v= .slice Tu (min T.length 16) cap∧(0<min T.length 16→Tu=some ⟨gb,0,none⟩))∧(∀i t,i<min T.length 16→T[i]? =some t→w.cell? ⟨gb,i,none⟩=some (.string t))∧
  (db≠Wg∧C≠Wg∧sb≠Wg∧(0<min T.length 16→gb≠Wg)∧C<w.heap.size)∧W.heap.size≤Wg∧Wg<w.heap.size∧(∀b,b<W.heap.size→w.heap[b]? =W.heap[b]?)∧w.os=W.os∧w.output=W.output∧w.tape=W.tape
theorem RU{W:World}{ao:Option Addr}{cap:Nat}{T:List ByteArray}{a:Act}(h:In3 W p q ao cap T)(hK:Kn 74 [(0,.agg #[.int .i64 p,.int .i64 q]),(1,.slice ao T.length cap)] a){Us:Nat→ByteArray}(hU:∀k t,k<min T.length 16→T[k]? =some t→bl (Us k)=Gg (nA p) (ny q) t):
 ∃N m t,runNT prog N (solo (G (b3.at a [.code lI]) []) W) #[]=(.next m,t)∧SL W p q T Us m t:=by
 obtain⟨r1,h1⟩:=ade (Bs:=fun b=>b<W.heap.size) (S:=fun _=>False) (cs:=[]) (fun b=>Iff.rfl) (bE _) h.x hK;obtain⟨N1,g1,w1,S1,u1,e1,⟨a1,v,sb,S1',rfl,hK1,hF1⟩,al1,sz1,kp1,os1,Vj,tp1⟩:=J3 #[] h1 (fun b hb=>hb.elim id False.elim);have U7:∀b,b<W.heap.size→w1.heap[b]? =W.heap[b]? :=fun b hb=>kp1 b hb id;have hG1:fD w1:=fun b hb=>by obtain⟨o,ho,x⟩:=h.g b hb;exact⟨o,(U7 b (by have:=h.h7;omega)).trans ho,x⟩
 have hT1:iE w1:=h.t.kept fun k hk=>U7 k (by have:=h.h7;omega);have lsb:sb<w1.heap.size:=(kP.1 hF1.box).1;obtain⟨Tu,cap',gb,hv,hao,hlt,hcl⟩:∃(Tu:Option Addr) (cap' gb:Nat),v= .slice Tu (min T.length 16) cap'∧(0<min T.length 16→Tu=some ⟨gb,0,none⟩)∧(0<min T.length 16→gb<w1.heap.size)∧(∀i t,i<min T.length 16→T[i]? =some t→w1.cell? ⟨gb,i,none⟩=some (.string t)):=by
  rcases hF1.row.2 with⟨rfl,h0⟩|⟨gb,cap',cur,rfl,_,hg,hnc,_,hcs,htk⟩
  ·exact⟨none,0,0,by rw[h0],fun x=>by omega,fun x=>by omega,fun i t hi _=>by omega⟩
  ·refine⟨_,cap',gb,rfl,fun _=>rfl,fun _=>(kP.1 hg).1,fun i t hi ht=>?_⟩;have:cur.toList[i]? =some (.string t):=by
    have e:(cur.toList.take (min T.length 16*1))[i]? =cur.toList[i]? :=by rw[List.getElem?_take_of_lt (by omega)]
    rw[←e,htk,sH,List.getElem?_take_of_lt hi,ht];rfl
   have:cur[i]? =some (.string t):=by simpa using this
   simp[World.cell?,hg,this]
 obtain⟨r2,h2⟩:=adf (Bs:=fun b=>b<w1.heap.size) (N0:=w1.heap.size) (cs:=[]) hv (by omega) h.p h.q (fun b hb=>by have:=h.h7;show b<w1.heap.size;omega) lsb (fun b hb=>hb) ⟨hF1.box,hG1,hT1,bE _⟩ hK1;obtain⟨N2,g2,w2,S2,u2,e2,⟨a2,rest,S2',hrest,hK2,hM⟩,al2,sz2,kp2,os2,acQ,tp2⟩:=J3 u1 h2 (fun b hb=>hb.elim id False.elim);have Rf:∀b,b<w1.heap.size→w2.heap[b]? =w1.heap[b]? :=fun b hb=>kp2 b hb id;have hG2:fD w2:=fun b hb=>by obtain⟨o,ho,x⟩:=hG1 b hb;exact⟨o,(Rf b (by have:=h.h7;omega)).trans ho,x⟩
 have hT2:iE w2:=hT1.kept fun k hk=>Rf k (by have:=h.h7;omega);rw[hv]at hM;have hTs:∀k,k<min T.length 16→∃t,T[k]? =some t:=fun k hk=>⟨_,gK (by omega)⟩;let Ts:Nat→ByteArray:=fun k=>(T[k]?).getD ⟨#[]⟩;have eTs:∀k t,T[k]? =some t→Ts k=t:=fun k t e=>by simp[Ts,e]
 obtain⟨N3,m3,t3,e3,C,hC0,_,gs,w3,sl,a0,qs,Tm,db,rfl,g0,hL,hP,UM,hgo,hC,hdb,Re,hres,kp3,hlt3,os3,acR,tp3⟩:=MM (gb:=gb) (Ts:=Ts) (Us:=Us) (u:=u1++u2) hM (mY p) (mX q) (by omega) (fun h0=>⟨hao h0,hlt h0⟩)
  (fun k hk=>by obtain⟨t,ht⟩:=hTs k hk;rw[eTs k t ht];exact(cell_of_block (Rf gb (hlt (by omega))) k).trans (hcl k t hk ht))
  (fun k hk=>by obtain⟨t,ht⟩:=hTs k hk;rw[eTs k t ht];exact h.s t (fu ht))
  (fun k hk=>by obtain⟨t,ht⟩:=hTs k hk;rw[eTs k t ht];exact hU k t hk ht) (by have:=h.h7;omega) hG2 hT2 (al1.app al2 sz2)
 have U8:∀b,b<w1.heap.size→w3.heap[b]? =w1.heap[b]? :=fun b hb=>(kp3 b (by omega) (by omega)).trans (Rf b hb);have hu:(#[]:Trace)++u1=u1:=by simp
 rw[hu]at e1;refine⟨N1+(N2+N3),_,t3,oU e1 (oU e2 e3),gs,w3,sl,a0,qs,Tm,db,C,w2.heap.size,sb,gb,cap',v,a2,rest,rfl,g0,hL,hP,UM,hrest,hK2,hgo,Re,hres,(U8 sb lsb).trans hF1.box,⟨Tu,hv,hao⟩,fun i t hi ht=>(cell_of_block (U8 gb (hlt (by omega))) i).trans (hcl i t hi ht),⟨by omega,by omega,by omega,fun h0=>by have:=hlt h0;omega,by omega⟩,by omega,hlt3,fun b hb=>(U8 b (by omega)).trans (U7 b hb),os3.trans (os2.trans os1),acR.trans (acQ.trans Vj),tp3.trans (tp2.trans tp1)⟩
open Go.ConcR (KK wgBlock WgAt stA smA rd wr Payload Aside2 DC0 ofEvent_cell)
set_option linter.unusedSimpArgs false
set_option linter.unusedVariables false
structure PP where
 db:Nat
 C:Nat
 sb:Nat
 gb:Nat
 n:Nat
 cap:Nat
 p:Int
 q:Int
 v:Value
 T:List ByteArray
 Us:Nat→ByteArray
structure PP.Ok (x:PP):Prop where
 n16:x.n≤16
 nT:x.n≤x.T.length
 p: -9223372036854775808≤x.p∧x.p≤9223372036854775807
 q: -9223372036854775808≤x.q∧x.q≤9223372036854775807
 v:∃ao,x.v= .slice ao x.n x.cap∧(0<x.n→ao=some ⟨x.gb,0,none⟩)
 s:∀t∈x.T,t.size≤281474976710656
 U:∀k t,k<x.n→x.T[k]? =some t→bl (x.Us k)=Gg (nA x.p) (ny x.q) t
structure PP.On (x:PP) (Bs:Nat→Prop):Prop where
 b7:∀b,b<7→Bs b
 db:Bs x.db
 C:Bs x.C
 sb:Bs x.sb
 gb:0<x.n→Bs x.gb
theorem PP.On.mono{x:PP}{Bs Qj:Nat→Prop}(h:x.On Bs)(hb:∀b,Bs b→Qj b):x.On Qj:=⟨fun b hb'=>hb b (h.b7 b hb'),hb _ h.db,hb _ h.C,hb _ h.sb,fun h0=>hb _ (h.gb h0)⟩
structure FP (x:PP) (w:World):Prop where
 d:w.cell? ⟨x.db,0,none⟩=some (.slice (some ⟨x.C,0,none⟩) x.n x.n)
 c:∀i,i<x.n→w.cell? ⟨x.C,i,none⟩=some (.string (x.Us i))
 box:w.heap[x.sb]? =some (.cells #[.int .i64 x.p,.int .i64 x.q] 23)
 x:∀i t,i<x.n→x.T[i]? =some t→w.cell? ⟨x.gb,i,none⟩=some (.string t)
 g:fD w
 t:iE w
theorem Ev{x:PP}{Bs:Nat→Prop}(h:x.On Bs):Ea Bs (FP x):=fun w w' hk hz _ y=>
 ⟨(cell_of_block (hk _ h.db) 0).trans y.d,fun i hi=>(cell_of_block (hk _ h.C) i).trans (y.c i hi),(hk _ h.sb).trans y.box,fun i t hi ht=>(cell_of_block (hk _ (h.gb (by omega))) i).trans (y.x i t hi ht),
   fun b hb=>by obtain⟨o,ho,z⟩:=y.g b hb;exact⟨o,(hk b (h.b7 b hb)).trans ho,z⟩,y.t.kept fun k hk'=>hk k (h.b7 k (by omega))⟩
theorem aA{x:PP}{Bs S:Nat→Prop}(h:x.On Bs)(y:FP x w)(r:RY (fun b=>Bs b∨S b) w w₁):FP x w₁:=Ev h w w₁ (fun b hb=>r.keep b (.inl hb)) r.size r.os y
theorem ZJ:q14[0]? =some {dst:=some 33,op:=.load 24 (.tmp 8),type:=24,pos:= "slate.go:123",after:=#[],guard:=none}:=rfl
theorem ZK:q14[1]? =some {dst:=some 6,op:=.assign (.tmp 33),type:=24,pos:= "slate.go:123",after:=#[{on:=0,ground:=.data},{on:=0,ground:=.phase}],guard:=none}:=rfl
noncomputable def p14:Oper:=(q14[2]?).getD default
theorem ZL:q14[2]? =some p14:=rfl
section
variable {main:Bool} {Bs S:Nat→Prop} {Stop:(Nat→Prop)→Goroutine→World→Prop} {w:World} {b b₀:Frame} {a a₀:Act} {kk todo:List Item} {cs:List Frame} {ops:Array Oper} {i:Nat} {rest:List Nat} {n:Nat} {L:List (Nat × Value)}
theorem K7{fn:Func}{t u:Tmp}{x y:Value}(hK:Kn n L a)(hn:b.kind= .normal)(hf:prog.funcs[b.fn]? =some fn)(hr:fn.results= #[.tmp t,.tmp u])(h1:(t,x)∈L)(h2:(u,y)∈L)(h:∀w₁,RY (fun b=>Bs b∨S b) w w₁→GE prog main Bs Stop S (G (b₀.at (a₀.put ((ops[i]?).bind (·.dst)) (.tuple #[x,y])) (.inRegion ops rest::kk)) cs) w₁):
 GE prog main Bs Stop S (G {b.at a todo with mode:=.returning} (b₀.at a₀ (.inRegion ops (i::rest)::kk)::cs)) w:=by
 refine au rfl (fun w=>?_) h;rw[stepG_leave hn hK.df hf (results_tmp2 hr _ prog w) (events_results_tmp2 hr _ _),Frame.finish_at];have e1:=hK.at h1;have e2:=hK.at h2;simp[e1,e2]
end
section
variable {x:PP} {Bs:Nat→Prop} {Stop:(Nat→Prop)→Goroutine→World→Prop} {w:World} {a:Act} {T:Array Value} {cs:List Frame} {rest:List Nat}
theorem ML(ho:x.On Bs)(hT:V5 x.db T)(hF:FP x w)(next:∀w',RY (fun b=>Bs b∨False) w w'→GE prog true Bs Stop (fun _=>False) (G (b3.at (a.put (some 36) (.tuple #[.slice (some ⟨x.C,0,none⟩) x.n x.n,.int .i64 0])) (.inRegion e6 rest::[.code RB])) cs) w'):
 GE prog true Bs Stop (fun _=>False) (LP T (b3.at a (.inRegion e6 (5::rest)::[.code RB])::cs)) w:=by
 have y0:RY (fun b=>Bs b∨False) w w:=.refl w;unfold LP;have e13:(q13[0]?).bind (·.dst)=some 32:=rfl;rw[e13];have hK:Kn 34 [(8,.pointer (some ⟨x.db,0,none⟩))] ⟨T,[]⟩:=⟨hT.1,rfl,fun p hp=>by simp only[di,eU,eX]at hp;subst hp;exact hT.2⟩
 replace hK:=hK.put (d:=32) (by decide) rfl (.tuple #[])
 generalize ((⟨T,[]⟩:Act).put (some 32) (.tuple #[]))=a' at hK ⊢;refine au rfl (fun _=>stepG_region_end) fun w₁ y=>?_
 replace y0:=y0.trans y
 unfold P9;refine au rfl (fun _=>stepG_seq) fun w₁ y=>?_
 replace y0:=y0.trans y
 refine au rfl (fun _=>stepG_region) fun w₁ y=>?_
 replace y0:=y0.trans y
 rw[r14];refine J5 (.inr (.inr rfl)) hK ZJ (ai rfl) (by decide) rfl (hK.get (List.mem_cons_of_mem _ List.mem_cons_self)) (.inl ho.db) (fun w₁ y=>(aA ho hF (y0.trans y)).d) yY rfl (by decide) rfl fun a' w₁ y hK=>?_
 replace y0:=y0.trans y
 refine aR hK ZK (ai rfl) (by decide) (.inr rfl) (hK.get List.mem_cons_self) rfl (by decide) rfl fun a' w₁ y hK=>?_
 replace y0:=y0.trans y
 refine aR (x:=.const (.int .i64 0)) (v:=.int .i64 0) (d:=7) hK ZL (ai rfl) (by decide) (.inr rfl) rfl rfl (by decide) rfl fun a' w₁ y hK=>?_
 replace y0:=y0.trans y
 refine au rfl (fun _=>stepG_region_end) fun w₁ y=>?_
 replace y0:=y0.trans y
 refine au rfl (fun _=>stepG_ret') fun w₁ y=>?_
 replace y0:=y0.trans y
 refine K7 (t:=6) (u:=7) hK rfl func5 rfl (List.mem_cons_of_mem _ List.mem_cons_self) List.mem_cons_self fun w₁ y=>?_;exact next w₁ (y0.trans y)
end
noncomputable def yV (a:Act) (cs:List Frame):Goroutine:=G (b3.at a [.code LC,.inLoop LC,.inBlock 2,.code (.seq (.region 18 e18 false) .ret)]) cs
section
variable {x:PP} {Bs:Nat→Prop} {Stop:(Nat→Prop)→Goroutine→World→Prop} {w:World} {a:Act} {cs:List Frame}
theorem GL(hx:x.Ok)(ho:x.On Bs)(hd:∀b,Bs b→b<w.heap.size)(hF:FP x w)(hK:Kn 74 [(8,.int .i64 0),(7,.slice (some ⟨x.C,0,none⟩) x.n x.n),(5,x.v),(2,.pointer (some ⟨x.sb,0,none⟩))] a)(next:∀a' w',Kn 74 [(9,.int .i64 ((0:Nat):Int)),(7,.slice (some ⟨x.C,0,none⟩) x.n x.n),(5,x.v),(2,.pointer (some ⟨x.sb,0,none⟩))] a'→FP x w'→(∀b,Bs b→b<w'.heap.size)→GE prog true Bs Stop (fun _=>False) (yV a' cs) w'):
 GE prog true Bs Stop (fun _=>False) (G (b3.at a (.inRegion e6 []::[.code RB])) cs) w:=by
 obtain⟨ao,hv,_⟩:=hx.v;refine au rfl (fun _=>stepG_region_end) fun w₁ y=>?_
 replace hF:=aA ho hF y
 replace hd:=fun b hb=>aH (hd b hb) y.size
 clear y;unfold RB;refine au rfl (fun _=>stepG_seq) fun w₁ y=>?_
 replace hF:=aA ho hF y
 replace hd:=fun b hb=>aH (hd b hb) y.size
 clear y;refine au rfl (fun _=>stepG_seq) fun w₁ y=>?_
 replace hF:=aA ho hF y
 replace hd:=fun b hb=>aH (hd b hb) y.size
 clear y;refine au rfl (fun _=>stepG_region) fun w₁ y=>?_
 replace hF:=aA ho hF y
 replace hd:=fun b hb=>aH (hd b hb) y.size
 clear y;rw[rg7];refine aR hK abG (ai rfl) (by decide) (.inl rfl) (hK.get (List.mem_cons_self)) rfl (by decide) rfl fun a w₁ y hK=>?_
 replace hF:=aA ho hF y
 replace hd:=fun b hb=>aH (hd b hb) y.size
 clear y;refine bZ (v:=.bool false) hK abH (ai rfl) (by decide) rfl (by decide) rfl (fun w=>by have e0:=hK.at (List.mem_cons_self);constructor<;>(unfold execOp;simp[go_sem,e0])) fun a w₁ y hK=>?_
 replace hF:=aA ho hF y
 replace hd:=fun b hb=>aH (hd b hb) y.size
 clear y;refine aR hK abI (ai rfl) (by decide) (.inl rfl) (hK.get (List.mem_cons_self)) rfl (by decide) rfl fun a w₁ y hK=>?_
 replace hF:=aA ho hF y
 replace hd:=fun b hb=>aH (hd b hb) y.size
 clear y;refine aR hK abJ ((hK.wanted (t:=false) rfl rfl (List.mem_cons_self)).trans rfl) (by decide) (.inl rfl) (hK.get (List.mem_cons_of_mem _ (List.mem_cons_of_mem _ (List.mem_cons_of_mem _ (List.mem_cons_of_mem _ List.mem_cons_self))))) rfl (by decide) rfl fun a w₁ y hK=>?_
 replace hF:=aA ho hF y
 replace hd:=fun b hb=>aH (hd b hb) y.size
 clear y;refine bZ (v:=.int .i64 x.n) hK abK ((hK.wanted (t:=false) rfl rfl (List.mem_cons_of_mem _ List.mem_cons_self)).trans rfl) (by decide) rfl (by decide) rfl (fun w=>by have e0:=hK.at (List.mem_cons_self);constructor<;>(unfold execOp;simp[go_sem,e0])) fun a w₁ y hK=>?_
 replace hF:=aA ho hF y
 replace hd:=fun b hb=>aH (hd b hb) y.size
 clear y;refine aR hK abL ((hK.wanted (t:=false) rfl rfl (List.mem_cons_of_mem _ (List.mem_cons_of_mem _ List.mem_cons_self))).trans rfl) (by decide) (.inl rfl) (hK.get (List.mem_cons_of_mem _ (List.mem_cons_of_mem _ (List.mem_cons_of_mem _ (List.mem_cons_of_mem _ (List.mem_cons_of_mem _ (List.mem_cons_of_mem _ (List.mem_cons_of_mem _ List.mem_cons_self)))))))) rfl (by decide) rfl fun a w₁ y hK=>?_
 replace hF:=aA ho hF y
 replace hd:=fun b hb=>aH (hd b hb) y.size
 clear y;refine bZ (v:=.int .i64 x.n) hK abM ((hK.wanted (t:=false) rfl rfl (List.mem_cons_of_mem _ (List.mem_cons_of_mem _ (List.mem_cons_of_mem _ List.mem_cons_self)))).trans rfl) (by decide) rfl (by decide) rfl (fun w=>by have e0:=hK.at (List.mem_cons_self);constructor<;>(unfold execOp;simp[go_sem,e0,hv])) fun a w₁ y hK=>?_
 replace hF:=aA ho hF y
 replace hd:=fun b hb=>aH (hd b hb) y.size
 clear y;refine bZ (v:=.bool false) hK abN ((hK.wanted (t:=false) rfl rfl (List.mem_cons_of_mem _ (List.mem_cons_of_mem _ (List.mem_cons_of_mem _ (List.mem_cons_of_mem _ List.mem_cons_self))))).trans rfl) (by decide) rfl (by decide) rfl (fun w=>by have e0:=hK.at (List.mem_cons_of_mem _ (List.mem_cons_of_mem _ List.mem_cons_self));have e1:=hK.at (List.mem_cons_self);constructor<;>(unfold execOp;simp[go_sem,e0,e1])) fun a w₁ y hK=>?_
 replace hF:=aA ho hF y
 replace hd:=fun b hb=>aH (hd b hb) y.size
 clear y;refine bZ (v:=.bool false) hK abO (ai rfl) (by decide) rfl (by decide) rfl (fun w=>by have e0:=hK.at (List.mem_cons_of_mem _ (List.mem_cons_of_mem _ (List.mem_cons_of_mem _ (List.mem_cons_of_mem _ (List.mem_cons_of_mem _ List.mem_cons_self)))));have e1:=hK.at (List.mem_cons_self);constructor<;>(unfold execOp;simp[go_sem,e0,e1])) fun a w₁ y hK=>?_
 replace hF:=aA ho hF y
 replace hd:=fun b hb=>aH (hd b hb) y.size
 clear y;refine au rfl (fun _=>stepG_region_end) fun w₁ y=>?_
 replace hF:=aA ho hF y
 replace hd:=fun b hb=>aH (hd b hb) y.size
 clear y;refine au rfl (fun _=>stepG_cond (t:=false) (hK.get (List.mem_cons_self))) fun w₁ y=>?_
 replace hF:=aA ho hF y
 replace hd:=fun b hb=>aH (hd b hb) y.size
 clear y;simp only[Bool.false_eq_true, ↓reduceIte];refine au rfl (fun _=>stepG_skip) fun w₁ y=>?_
 replace hF:=aA ho hF y
 replace hd:=fun b hb=>aH (hd b hb) y.size
 clear y;unfold RC;refine au rfl (fun _=>stepG_seq) fun w₁ y=>?_
 replace hF:=aA ho hF y
 replace hd:=fun b hb=>aH (hd b hb) y.size
 clear y;refine au rfl (fun _=>stepG_seq) fun w₁ y=>?_
 replace hF:=aA ho hF y
 replace hd:=fun b hb=>aH (hd b hb) y.size
 clear y;refine au rfl (fun _=>stepG_region) fun w₁ y=>?_
 replace hF:=aA ho hF y
 replace hd:=fun b hb=>aH (hd b hb) y.size
 clear y;rw[rg9];refine aR (v:=.int .i64 0) hK abP (ai rfl) (by decide) (.inr rfl) rfl rfl (by decide) rfl fun a w₁ y hK=>?_
 replace hF:=aA ho hF y
 replace hd:=fun b hb=>aH (hd b hb) y.size
 clear y;refine au rfl (fun _=>stepG_region_end) fun w₁ y=>?_
 replace hF:=aA ho hF y
 replace hd:=fun b hb=>aH (hd b hb) y.size
 clear y;refine au rfl (fun _=>stepG_block) fun w₁ y=>?_
 replace hF:=aA ho hF y
 replace hd:=fun b hb=>aH (hd b hb) y.size
 clear y;refine au rfl (fun _=>stepG_loop) fun w₁ y=>?_
 replace hF:=aA ho hF y
 replace hd:=fun b hb=>aH (hd b hb) y.size
 clear y
 replace hK:=hK.sub (L':=[(9,.int .i64 0),(7,.slice (some ⟨x.C,0,none⟩) x.n x.n),(5,x.v),(2,.pointer (some ⟨x.sb,0,none⟩))]) (by intro p hp;simp only[di,eU,eX]at hp ⊢;rcases hp with rfl|rfl|rfl|rfl<;>simp)
 exact next a w₁ hK hF hd
theorem RD{rest:List Nat}(hrest:Mm.contains rest=true)(hx:x.Ok)(ho:x.On Bs)(hd:∀b,Bs b→b<w.heap.size)(hF:FP x w)(hK:Kn 74 [(36,.tuple #[.slice (some ⟨x.C,0,none⟩) x.n x.n,.int .i64 0]),(5,x.v),(2,.pointer (some ⟨x.sb,0,none⟩))] a)(next:∀a' w',Kn 74 [(9,.int .i64 ((0:Nat):Int)),(7,.slice (some ⟨x.C,0,none⟩) x.n x.n),(5,x.v),(2,.pointer (some ⟨x.sb,0,none⟩))] a'→FP x w'→(∀b,Bs b→b<w'.heap.size)→GE prog true Bs Stop (fun _=>False) (yV a' cs) w'):
 GE prog true Bs Stop (fun _=>False) (G (b3.at a (.inRegion e6 rest::[.code RB])) cs) w:=by
 have hm:rest=[6,7,8,9,10]∨rest=[6,7,9,8,10]∨rest=[6,8,7,9,10]:=by simpa[Mm]using hrest
 rcases hm with rfl|rfl|rfl
 ·refine aR hK TY (ai rfl) (by decide) (.inl rfl) (hK.get (List.mem_cons_self)) rfl (by decide) rfl fun a w₁ y hK=>?_
  replace hF:=aA ho hF y
  replace hd:=fun b hb=>aH (hd b hb) y.size
  clear y;refine bZ (v:=.slice (some ⟨x.C,0,none⟩) x.n x.n) hK TZ (ai rfl) (by decide) rfl (by decide) rfl (fun w=>by have e0:=hK.at (List.mem_cons_self);constructor<;>(unfold execOp;simp[go_sem,e0])) fun a w₁ y hK=>?_
  replace hF:=aA ho hF y
  replace hd:=fun b hb=>aH (hd b hb) y.size
  clear y;refine bZ (v:=.int .i64 0) hK T9 (ai rfl) (by decide) rfl (by decide) rfl (fun w=>by have e0:=hK.at (List.mem_cons_of_mem _ List.mem_cons_self);constructor<;>(unfold execOp;simp[go_sem,e0])) fun a w₁ y hK=>?_
  replace hF:=aA ho hF y
  replace hd:=fun b hb=>aH (hd b hb) y.size
  clear y;refine aR hK T_ (ai rfl) (by decide) (.inr rfl) (hK.get (List.mem_cons_of_mem _ List.mem_cons_self)) rfl (by decide) rfl fun a w₁ y hK=>?_
  replace hF:=aA ho hF y
  replace hd:=fun b hb=>aH (hd b hb) y.size
  clear y;refine aR hK Oe (ai rfl) (by decide) (.inr rfl) (hK.get (List.mem_cons_of_mem _ List.mem_cons_self)) rfl (by decide) rfl fun a w₁ y hK=>?_
  replace hF:=aA ho hF y
  replace hd:=fun b hb=>aH (hd b hb) y.size
  clear y
  replace hK:=hK.sub (L':=[(8,.int .i64 0),(7,.slice (some ⟨x.C,0,none⟩) x.n x.n),(5,x.v),(2,.pointer (some ⟨x.sb,0,none⟩))]) (by intro p hp;simp only[di,eU,eX]at hp ⊢;rcases hp with rfl|rfl|rfl|rfl<;>simp)
  exact GL hx ho hd hF hK next
 ·refine aR hK TY (ai rfl) (by decide) (.inl rfl) (hK.get (List.mem_cons_self)) rfl (by decide) rfl fun a w₁ y hK=>?_
  replace hF:=aA ho hF y
  replace hd:=fun b hb=>aH (hd b hb) y.size
  clear y;refine bZ (v:=.slice (some ⟨x.C,0,none⟩) x.n x.n) hK TZ (ai rfl) (by decide) rfl (by decide) rfl (fun w=>by have e0:=hK.at (List.mem_cons_self);constructor<;>(unfold execOp;simp[go_sem,e0])) fun a w₁ y hK=>?_
  replace hF:=aA ho hF y
  replace hd:=fun b hb=>aH (hd b hb) y.size
  clear y;refine aR hK T_ (ai rfl) (by decide) (.inr rfl) (hK.get (List.mem_cons_self)) rfl (by decide) rfl fun a w₁ y hK=>?_
  replace hF:=aA ho hF y
  replace hd:=fun b hb=>aH (hd b hb) y.size
  clear y;refine bZ (v:=.int .i64 0) hK T9 (ai rfl) (by decide) rfl (by decide) rfl (fun w=>by have e0:=hK.at (List.mem_cons_of_mem _ (List.mem_cons_of_mem _ List.mem_cons_self));constructor<;>(unfold execOp;simp[go_sem,e0])) fun a w₁ y hK=>?_
  replace hF:=aA ho hF y
  replace hd:=fun b hb=>aH (hd b hb) y.size
  clear y;refine aR hK Oe (ai rfl) (by decide) (.inr rfl) (hK.get (List.mem_cons_self)) rfl (by decide) rfl fun a w₁ y hK=>?_
  replace hF:=aA ho hF y
  replace hd:=fun b hb=>aH (hd b hb) y.size
  clear y
  replace hK:=hK.sub (L':=[(8,.int .i64 0),(7,.slice (some ⟨x.C,0,none⟩) x.n x.n),(5,x.v),(2,.pointer (some ⟨x.sb,0,none⟩))]) (by intro p hp;simp only[di,eU,eX]at hp ⊢;rcases hp with rfl|rfl|rfl|rfl<;>simp)
  exact GL hx ho hd hF hK next
 ·refine aR hK TY (ai rfl) (by decide) (.inl rfl) (hK.get (List.mem_cons_self)) rfl (by decide) rfl fun a w₁ y hK=>?_
  replace hF:=aA ho hF y
  replace hd:=fun b hb=>aH (hd b hb) y.size
  clear y;refine bZ (v:=.int .i64 0) hK T9 (ai rfl) (by decide) rfl (by decide) rfl (fun w=>by have e0:=hK.at (List.mem_cons_self);constructor<;>(unfold execOp;simp[go_sem,e0])) fun a w₁ y hK=>?_
  replace hF:=aA ho hF y
  replace hd:=fun b hb=>aH (hd b hb) y.size
  clear y;refine bZ (v:=.slice (some ⟨x.C,0,none⟩) x.n x.n) hK TZ (ai rfl) (by decide) rfl (by decide) rfl (fun w=>by have e0:=hK.at (List.mem_cons_of_mem _ List.mem_cons_self);constructor<;>(unfold execOp;simp[go_sem,e0])) fun a w₁ y hK=>?_
  replace hF:=aA ho hF y
  replace hd:=fun b hb=>aH (hd b hb) y.size
  clear y;refine aR hK T_ (ai rfl) (by decide) (.inr rfl) (hK.get (List.mem_cons_self)) rfl (by decide) rfl fun a w₁ y hK=>?_
  replace hF:=aA ho hF y
  replace hd:=fun b hb=>aH (hd b hb) y.size
  clear y;refine aR hK Oe (ai rfl) (by decide) (.inr rfl) (hK.get (List.mem_cons_of_mem _ (List.mem_cons_of_mem _ List.mem_cons_self))) rfl (by decide) rfl fun a w₁ y hK=>?_
  replace hF:=aA ho hF y
  replace hd:=fun b hb=>aH (hd b hb) y.size
  clear y
  replace hK:=hK.sub (L':=[(8,.int .i64 0),(7,.slice (some ⟨x.C,0,none⟩) x.n x.n),(5,x.v),(2,.pointer (some ⟨x.sb,0,none⟩))]) (by intro p hp;simp only[di,eU,eX]at hp ⊢;rcases hp with rfl|rfl|rfl|rfl<;>simp)
  exact GL hx ho hd hF hK next
end
open Go.ConcR (KK wgBlock WgAt stA smA rd wr Payload Aside2 DC0 ofEvent_cell)
set_option linter.unusedSimpArgs false
set_option linter.unusedVariables false
def xq (w:World) (t:ByteArray):World:=(qR w).alloc (.cells #[.string t] 9)
def O7 (tb:Nat) (b:Nat):Nat:=if b=7 then tb else b
section
variable {w:World} {t:ByteArray} {tb:Nat}
theorem kz(h:fD w):(xq w t).heap.size=8:=by simp[xq,gm h]
theorem rR(h:fD w){b:Nat}(hb:b<7):(xq w t).heap[b]? =w.heap[b]? :=(h_ _ _ _ (by rw[gm h];exact hb)).trans (l_ hb)
theorem mK(h:fD w):(xq w t).heap[7]? =some (.cells #[.string t] 9):=by have:=bJ (qR w) (.cells #[.string t] 9);rw[gm h]at this;exact this
theorem EC(h:fD w)(h7:7≤tb)(ht:w.heap[tb]? =some (.cells #[.string t] 9)):HR 7 (O7 tb) (xq w t) w:=by
 have hz:=kz (t:=t) h;have h0:=qO h;have hlt:=(kP.1 ht).1;obtain⟨o6,ho6,_⟩:=h 6 (by omega);have hs:=(kP.1 ho6).1;refine⟨fun a b ha hb e=>?_,fun b hb=>?_,fun b hb=>?_,fun b h1 h2=>?_,by omega,fun ρ e b hb=>?_,fun b c ty hx=>?_,rfl⟩
 ·simp only[O7]at e;rw[hz]at ha hb;split at e<;>split at e<;>omega
 ·simp only[O7];rw[hz]at hb;split<;>omega
 ·simp only[O7];rw[aG (by omega)]
 ·have:b=7:=by omega
  subst this;simp[O7,h7]
 ·rw[hz]at hb;rcases Nat.lt_or_ge b 7 with hb'|hb'
  ·obtain⟨o,ho,h1,_⟩:=h b hb';rw[rR h hb'];simp[O7,show b≠7 by omega,ho,h1]
  ·have:b=7:=by omega
   subst this;rw[mK h];simp[O7,ht,lM,mv]
 ·rcases Nat.lt_or_ge b 7 with hb|hb
  ·rw[rR h hb]at hx;obtain⟨o,ho,_,h2⟩:=h b hb;rw[ho]at hx;cases hx;exact h2 c ty rfl
  ·rcases Nat.lt_or_ge 7 b with hb'|hb'
   ·rw[qh (by omega)]at hx;cases hx
   ·have:b=7:=by omega
    subst this;rw[mK h]at hx;cases hx
theorem Lx(h:fD w):own 7 (O7 tb) (xq w t)=fun b=>b=tb:=by
 funext b;apply propext;constructor
 ·rintro⟨i,h1,h2,h3⟩;rw[kz h]at h2;have:i=7:=by omega
  subst this;simpa[O7]using h3.symm
 ·rintro rfl;exact⟨7,bE _,by rw[kz h];omega,by simp[O7]⟩
theorem El(h:fD w):∀τ,uq 7 τ→Go.Ren.Clean τ (xq w t):=by
 intro τ eY;obtain⟨c1,c2⟩:=nK h τ eY;refine⟨fun x o hx=>?_,fun x hx=>c2 x (by rw[gm h];rw[kz h]at hx;omega)⟩;rcases Nat.lt_or_ge x 7 with hb|hb
 ·rw[rR h hb]at hx;exact c1 x o ((l_ hb).trans hx)
 ·rcases Nat.lt_or_ge 7 x with hb'|hb'
  ·rw[qh (by rw[kz h];omega)]at hx;cases hx
  ·have:x=7:=by omega
   subst this;rw[mK h]at hx;cases hx;simp[lM,mv]
theorem aab(h:fD w)(τ:Nat→Nat)(eY:uq 7 τ):τ 7=7:=(nK h τ eY).2 7 (by rw[gm h];exact bE _)
theorem zL(h:fD w)(ht:iE w):iE (xq w t):=ht.kept fun k hk=>rR h (by omega)
end
def Si (p q:Int) (t:ByteArray) (v:Value) (V:World):Prop:=∃fb,v= .tuple #[.pointer (some ⟨fb,0,none⟩),.bool true]∧PF fb ((agM.fresh (nA p) (ny q)).feed (bl t)) V
theorem N_(hp: -9223372036854775808≤p∧p≤9223372036854775807)(hq: -9223372036854775808≤q∧q≤9223372036854775807)(ht:t.size≤281474976710656)(hV:iE V)(h7:V.heap[7]? =some (.cells #[.string t] 9))(tp:Nat→Question→Nat)(d:Nat):
 Calls prog 8 #[.agg #[.int .i64 p,.int .i64 q],.slice (some ⟨7,0,none⟩) 1 1] (on V tp d) fun e w=>∃v,e= .returned v∧Si p q t v w:=by
 have hlt:=(kP.1 h7).1;have hz:(on V tp d).heap.size=V.heap.size:=rfl;have h7':(on V tp d).heap[7]? =some (.cells #[.string t] 9):=h7;have:=Q0 p q (some ⟨7,0,none⟩) 1 [t] (on V tp d) hp hq (uu hV tp d) (fun j x hj=>?_) (by simp) (by simpa using ht)
 ·refine this.mono ?_;rintro e w' ⟨fb,L,rfl,hA,hB⟩;refine⟨_,rfl,fb,rfl,L,?_,(uu hV tp d).kept fun k hk=>hB.block k (by omega),by have:=hA.fb;omega⟩;have e:xM [t]=bl t:=by simp[xM]
  rw[←e];exact hA.f
 ·cases j with
  |zero=>simp at hj;subst hj;exact⟨7,0,rfl,by omega,by simp[World.cell?,h7']⟩
  |succ j=>simp at hj
theorem Xo{x:agM}{v:Value}{Post:Value→World→Prop}(ht:Tidy (uq 7) Post v V)(hp:PF fb x V)(hv:v= .tuple #[.pointer (some ⟨fb,0,none⟩),.bool true]):TV x fb V:=by refine⟨hp,ht.2.1,fun τ eY=>⟨(ht.2.2 τ eY).1,?_⟩⟩;have:=(ht.2.2 τ eY).2;subst hv;simpa[mv]using this
theorem TI{U:ByteArray}(hU:bl U=Gg (nA p) (ny q) t)(hf:PF fb ((agM.fresh (nA p) (ny q)).feed (bl t)) V)(tp:Nat→Question→Nat)(d:Nat):
 Calls prog 9 #[.pointer (some ⟨fb,0,none⟩)] (on V tp d) fun e w=>∃v,e= .returned v∧v= .string U:=by
 obtain⟨L,h1,h2,h3⟩:=hf;have hok:((agM.fresh (nA p) (ny q)).feed (bl t)).Ok:=(agM.Ok.fresh (mY p) (mX q)).feed _ (nJ t);refine(yN fb L _ hok.t (vK (nA p) (ny q) (mY p) (mX q) _ (nJ t)) (on V tp d) (BX h1 tp d)).mono ?_;rintro e w' ⟨⟨U',rfl,hU'⟩,_⟩;have:U'=U:=Ci (by rw[hU',hU];rfl);subst this;exact⟨_,rfl,rfl⟩
structure H8 (x:PP) (Bs:Nat→Prop) (π:Nat→Nat) (V w:World):Prop where
 f:FP x w
 hr:HR 7 π V w
 d:∀b,Bs b→b<w.heap.size∧¬own 7 π V b
theorem H8.rely{x:PP}{Bs:Nat→Prop}{π:Nat→Nat}(ho:x.On Bs)(h:H8 x Bs π V w)(q:RY (fun b=>Bs b∨own 7 π V b) w w₁):H8 x Bs π V w₁:=
 ⟨aA ho h.f q,h.hr.rely ⟨fun y hy=>q.keep y (hy.imp (ho.b7 y) id),q.size,q.os⟩,bH h.d q.size⟩
section
variable {main:Bool} {Bs:Nat→Prop} {Stop:(Nat→Prop)→Goroutine→World→Prop} {w:World} {b:Frame} {a:Act} {kk:List Item} {cs:List Frame} {ops:Array Oper} {i:Nat} {rest:List Nat} {o:Oper} {n:Nat} {L:List (Nat × Value)} {d:Nat}
theorem Q4{o₀:Obj}{v:World→Value}(hK:Kn n L a)(ho:ops[i]? =some o)(hw:Region.wanted o (yielded ops a.tmps)=true)(hk:b.kind≠ .early)(hdst:o.dst=some d)(hd:d<n)(hL:(L.all fun p=>p.1 != d)=true)(hr:∀w,(execOp a.eval o).run prog w= .ok (.value (v w)) (w.alloc o₀)∧(execOp a.eval o).events prog w #[]= #[])(h:∀a' w₁,RY (fun b=>Bs b∨False) w w₁→Kn n ((d,v w₁)::L) a'→GE prog main Bs Stop (fun b=>b=w₁.heap.size) (G (b.at a' (.inRegion ops rest::kk)) cs) (w₁.alloc o₀)):
 GE prog main Bs Stop (fun _=>False) (G (b.at a (.inRegion ops (i::rest)::kk)) cs) w:=by
 refine GE.step rfl fun w₁ q=>?_;have hl:listed prog b.fn a o w₁= #[]:=by unfold listed;rw[(hr w₁).2,seen_none]
 have eS:grown (fun _=>False) w₁ (w₁.alloc o₀)=fun b=>b=w₁.heap.size:=by
  funext b;apply propext;simp only[grown,false_or];have:(w₁.alloc o₀).heap.size=w₁.heap.size+1:=by simp
  rw[this];omega
 refine⟨_,_,_,stepG_value ho hw hk (hr w₁).1,?_,by rw[eS,hdst];exact h _ w₁ q (hK.put hd hL (v w₁))⟩;rw[hl];exact⟨fun x hx _=>h_ _ _ _ hx,by simp,rfl,rfl,rfl,fun e he=>by simp at he⟩
end
end Go.Proofs.YtheibfffilomcabGreatDoor
