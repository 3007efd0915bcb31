import Derived.Test.YtheibfffilomcabGreatDoorR4U
import Derived.Test.YtheibfffilomcabGreatDoorK20U
set_option linter.all false
set_option maxRecDepth 100000
set_option maxHeartbeats 4000000
namespace Go.Proofs.YtheibfffilomcabGreatDoor
open Go.Ren Go.Conc Go.ConcN Go.RowKit Go.Conc.Lib Go.ConcR.Gen Go.ConcN.Gen Go.Proofs.Tryz
variable {p q:Int} {N0:Nat} {S:Nat→Prop} {w w₁:World} {P:Program} {main:Bool} {Stop Stop':(Nat→Prop)→Goroutine→World→Prop}
open Go.ConcR (KK wgBlock WgAt stA smA rd wr Payload Aside2 DC0 ofEvent_cell)
set_option linter.unusedSimpArgs false
set_option linter.unusedVariables false
theorem Q_{Bs:Nat→Prop}(hs:∀S g w,Stop S g w→Stop' S g w):∀{r:Rk} {S:Nat→Prop} {g:Goroutine} {w:World},GT P main Bs Stop r S g w→GT P main Bs Stop' r S g w:=by
 intro r;induction r with
 |none=>intro S g w h;exact h
 |leaf=>intro S g w h w₁ q;exact hs _ _ _ (h w₁ q)
 |node f ih=>intro S g w h;refine⟨h.1,fun w₁ q=>?_⟩;obtain⟨g',w',es,h1,h2,h3⟩:=h.2 w₁ q;exact⟨g',w',es,h1,h2,ih _ h3⟩
theorem Q6{Bs:Nat→Prop}{g:Goroutine}(h:GE P main Bs Stop S g w)(hs:∀S g w,Stop S g w→Stop' S g w):GE P main Bs Stop' S g w:=let⟨r,h⟩:=h;⟨r,Q_ hs h⟩
section
variable {main:Bool} {Bs S:Nat→Prop} {Stop:(Nat→Prop)→Goroutine→World→Prop} {w:World} {b:Frame} {a:Act} {kk:List Item} {cs:List Frame} {ops:Array Oper} {i:Nat} {rest:List Nat} {o:Oper}
theorem Ou{f:FuncId}{fn:Func}{XF:Array Operand}{ats:Array TypeId}(ho:ops[i]? =some o)(hw:Region.wanted o (yielded ops a.tmps)=true)(hk:b.kind≠ .early)(hop:o.op= .call {callee:=.value (.func f),args:=XF,argTypes:=ats})(hfn:prog.funcs[f]? =some fn)(hname:(fn.name== "runtime.NumGoroutine")=false)(hb:fn.body.isNone=false)(h:∀w₁,RY (fun b=>Bs b∨S b) w w₁→GE prog main Bs Stop S (G (Frame.enter prog f (XF.map a.eval) .normal) (b.at a (.inRegion ops (i::rest)::kk)::cs)) w₁):
 GE prog main Bs Stop S (G (b.at a (.inRegion ops (i::rest)::kk)) cs) w:=by
 refine GE.step rfl fun w₁ y=>?_;have hl:listed prog b.fn a o w₁= #[]:=by unfold listed;rw[events_call_body hop hfn hname hb];exact seen_none _ _
 exact⟨_,w₁,_,stepG_enter ho hw hk (run_call_body hop hfn hname hb),by rw[hl];exact .idle _,by rw[gV];exact h w₁ y⟩
end
structure FW (N0 sb:Nat) (p q:Int) (w:World):Prop where
 box:w.heap[sb]? =some (.cells #[.int .i64 p,.int .i64 q] 23)
 g:fD w
 t:iE w
 lo:N0≤w.heap.size
theorem J4{Bs:Nat→Prop}{sb:Nat}(h7:∀b,b<7→Bs b)(hs:Bs sb):Ec Bs (FW N0 sb p q):=fun w w' hk hz _ h=>
 ⟨(hk sb hs).trans h.box,fun b hb=>by obtain⟨o,ho,x⟩:=h.g b hb;exact⟨o,(hk b (h7 b hb)).trans ho,x⟩,h.t.kept fun k hk'=>hk k (h7 k (by omega)),fA h.lo hz⟩
theorem Sz{sb:Nat}:FG (FW N0 sb p q):=⟨fun _ h=>h.g,fun _ h=>h.t⟩
theorem Cx{Bs:Nat→Prop}{sb:Nat}(h7:∀b,b<7→Bs b)(hs:Bs sb)(h:FW N0 sb p q w)(y:RY (fun b=>Bs b∨S b) w w₁):FW N0 sb p q w₁:=J4 h7 hs w w₁ (fun b hb=>y.keep b (.inl hb)) y.size y.os h
def StopB (N0 sb n:Nat) (p q:Int) (v:Value) (cs:List Frame) (_:Nat→Prop) (g:Goroutine) (w:World):Prop:=
 ∃a rest S,Mr.contains rest=true∧Kn 74 [(5,v),(2,.pointer (some ⟨sb,0,none⟩))] a∧JO N0 [] (nA p) (ny q) n v (b3.at a (.inRegion e6 (5::rest)::[.code RB])::cs) S g w
theorem zF{sb n:Nat}{v:Value}{cs:List Frame}:KC (StopB N0 sb n p q v cs):=fun _ _ _ _ h=>h
theorem TF:f5.body=some mI:=rfl
theorem nt5:f5.ntmps=34:=rfl
theorem VN(x y z:Value): #[x,y,z]++Array.replicate (f5.ntmps-(#[x,y,z]:Array Value).size) undef= #[x,y,z,undef,undef,undef,undef,undef,undef,undef,undef,undef,undef,undef,undef,undef,undef,undef,undef,undef,undef,undef,undef,undef,undef,undef,undef,undef,undef,undef,undef,undef,undef,undef]:=by rw[nt5];simp[Array.replicate_succ]
theorem nm5:(f5.name== "runtime.NumGoroutine")=false:=by kernel_rfl
theorem nm6:(f6.name== "runtime.NumGoroutine")=false:=by kernel_rfl
theorem nm7:(f7.name== "runtime.NumGoroutine")=false:=by kernel_rfl
section
variable {N0 sb n cap:Nat} {p q:Int} {v:Value} {ao:Option Addr} {cs:List Frame}
theorem Pp(hv:v= .slice ao n cap)(hn:n≤16)(hp: -9223372036854775808≤p∧p≤9223372036854775807)(hq: -9223372036854775808≤q∧q≤9223372036854775807):
 ∀(l:List Nat) (D:Nat→Bool) (Bs:Nat→Prop) (a:Act) (w:World),ZK D l=true→(∀b,b<7→Bs b)→Bs sb→(∀b,Bs b→b<w.heap.size)→FW N0 sb p q w→Kn 74 (L6 p q v sb D) a→
  GE prog true Bs (StopB N0 sb n p q v cs) (fun _=>False) (G (b3.at a (.inRegion e6 l::[.code RB])) cs) w:=by
 intro l;induction l with
 |nil=>intro D Bs a w h;simp[ZK]at h
 |cons i l ih=>
  intro D Bs a w hok h7 hs hd hF hK;have put:∀{j:Nat} (hj:j<5) {a':Act},Kn 74 ((31+j,xI p q v j)::L6 p q v sb D) a'→Kn 74 (L6 p q v sb (FK D j)) a':=fun hj _ h=>ZB hj h;simp only[ZK]at hok;by_cases h5:Nat.beq i 5=true
  ·rw[aS h5]at hok;have e:=Nat.eq_of_beq_eq_true h5;subst e;simp only[Bool.and_eq_true]at hok;obtain⟨⟨⟨d1,d3⟩,d4⟩,hl⟩:=hok;have a1:=hK.get (O3 (i:=1) (by omega) d1);have a3:=hK.get (O3 (i:=3) (by omega) d3);have a4:=hK.get (O3 (i:=4) (by omega) d4);refine Ou abK (ai rfl) (by decide) rfl func5 nm5 rfl fun w₁ y=>?_;rw[enter_at _ func5 TF];have hF1:=Cx h7 hs hF y;have hK':Kn 74 [(5,v),(2,.pointer (some ⟨sb,0,none⟩))] a:=hK.sub fun x hx=>by simp only[di,eU,eX]at hx;rcases hx with rfl|rfl<;>simp[L6]
   subst hv;have hpre:=Qg (Bs:=Bs) (S:=fun _=>False) (rows:=nA p) (aa:=ny q) (n:=n) (cap:=cap) (ao:=ao) (cs:=b3.at a (.inRegion e6 (5::l)::[.code RB])::cs) (mY p) (mX q) hn (w:=w₁) (N0:=N0) (F0:=[]) ⟨fun x hx=>by simp at hx,.nil,fA hF.lo y.size⟩;have hst:∀S g w,JO N0 [] (nA p) (ny q) n (.slice ao n cap) (b3.at a (.inRegion e6 (5::l)::[.code RB])::cs) S g w→StopB N0 sb n p q (.slice ao n cap) cs S g w:=fun S g w h=>⟨a,l,S,hl,hK',h⟩;have:=Q6 hpre hst;simp only[List.map_toArray,List.map_cons,List.map_nil,a1,a3,a4,xI];rw[VN];exact this
  ·rw[aG h5]at hok;simp only[Bool.and_eq_true,Bool.not_eq_true',Bool.or_eq_true]at hok;obtain⟨⟨⟨⟨hi,hDi⟩,h10⟩,h32⟩,hl⟩:=hok;have hi:i<5:=by have:=Nat.le_of_ble_eq_true hi;omega
   have hfr:=UL (p:=p) (q:=q) (v:=v) (sb:=sb) hi hDi;have hsb:a.eval (.tmp 2)= .pointer (some ⟨sb,0,none⟩):=hK.get (List.mem_cons_of_mem _ List.mem_cons_self);have h5v:a.eval (.tmp 5)=v:=hK.get List.mem_cons_self;have Y9:∀ρ,#[Value.agg #[.int .i64 p,.int .i64 q]].map (mv ρ)= #[Value.agg #[.int .i64 p,.int .i64 q]]:=fun ρ=>by simp[mv]
   have cont:∀(a':Act) (w₁:World),RY (fun b=>Bs b∨False) w w₁→Kn 74 ((31+i,xI p q v i)::L6 p q v sb D) a'→GE prog true Bs (StopB N0 sb n p q v cs) (fun _=>False) (G (b3.at a' (.inRegion e6 l::[.code RB])) cs) w₁:=fun a' w₁ y hK'=>
    ih _ Bs a' w₁ hl h7 hs (fun b hb=>aH (hd b hb) y.size) (Cx h7 hs hF y) (put hi hK')
   match i,hi,hDi,h10,h32,hl,hfr,cont with
   | 0,_,_,_,_,_,hfr,cont=>exact xY hK abF (ai rfl) (by decide) rfl hsb (.inl hs) hF.box xu rfl (by decide) hfr fun a' w₁ y hK'=>cont a' w₁ y hK'
   | 2,_,_,_,_,_,hfr,cont=>exact xY hK abH (ai rfl) (by decide) rfl hsb (.inl hs) hF.box xu rfl (by decide) hfr fun a' w₁ y hK'=>cont a' w₁ y hK'
   | 4,_,_,_,_,_,hfr,cont=>exact aR hK abJ (ai rfl) (by decide) (.inl rfl) h5v rfl (by decide) hfr fun a' w₁ y hK'=>cont a' w₁ y hK'
   | 1,_,_,h10,_,hl,hfr,cont=>
     have hD0:D 0=true:=by rcases h10 with h|h;cases h;exact h
     refine J5 (v:=.int .i64 (nA p:Int)) (jW:=#[.agg #[.int .i64 p,.int .i64 q]]) zF h7 (J4 h7 hs) Sz rfl ZT Y9 (fun ρ=>by simp[mv]) (fun V t d hV=>(wE p q _ hp).mono fun e w' x=>x.1) abG (ai rfl) (by decide) rfl func6 nm6 rfl ?_ hd hF ?_
     ·have:=hK.get (O3 (i:=0) (by omega) hD0);simp only[List.map_toArray,List.map_cons,List.map_nil,this,xI]
     ·intro Qm w' YV hd' hF';exact ih _ Qm _ w' hl (fun b hb=>YV b (h7 b hb)) (YV sb hs) hd' hF' (put (j:=1) (by omega) (hK.put (d:=32) (by decide) hfr _))
   | 3,_,_,_,h32,hl,hfr,cont=>
     have hD2:D 2=true:=by rcases h32 with h|h;cases h;exact h
     refine J5 (v:=.int .i64 (ny q:Int)) (jW:=#[.agg #[.int .i64 p,.int .i64 q]]) zF h7 (J4 h7 hs) Sz rfl ZU Y9 (fun ρ=>by simp[mv]) (fun V t d hV=>(vU p q _ hq).mono fun e w' x=>x.1) abI (ai rfl) (by decide) rfl func7 nm7 rfl ?_ hd hF ?_
     ·have:=hK.get (O3 (i:=2) (by omega) hD2);simp only[List.map_toArray,List.map_cons,List.map_nil,this,xI]
     ·intro Qm w' YV hd' hF';exact ih _ Qm _ w' hl (fun b hb=>YV b (h7 b hb)) (YV sb hs) hd' hF' (put (j:=3) (by omega) (hK.put (d:=34) (by decide) hfr _))
end
open Go.ConcR (KK wgBlock WgAt stA smA rd wr Payload Aside2 DC0 ofEvent_cell)
set_option linter.unusedSimpArgs false
set_option linter.unusedVariables false
section
variable {N0 sb n cap:Nat} {p q:Int} {v:Value} {ao:Option Addr} {cs:List Frame} {Bs:Nat→Prop} {a:Act} {w:World}
theorem adk(hv:v= .slice ao n cap)(hn:n≤16)(hp: -9223372036854775808≤p∧p≤9223372036854775807)(hq: -9223372036854775808≤q∧q≤9223372036854775807)(h7:∀b,b<7→Bs b)(hs:Bs sb)(hd:∀b,Bs b→b<w.heap.size)(hF:FW N0 sb p q w)(hK:Kn 74 [(5,v),(2,.pointer (some ⟨sb,0,none⟩))] a):
 GE prog true Bs (StopB N0 sb n p q v cs) (fun _=>False) (G (b3.at a [.code RA]) cs) w:=by
 unfold RA;refine au rfl (fun _=>stepG_seq) fun w₁ y=>?_
 replace hd:=fun b hb=>aH (hd b hb) y.size
 replace hF:=Cx h7 hs hF y
 clear y;refine GE.draw rfl fun w₁ y=>⟨_,stepG_region_draw,?_⟩;have hm:=vT mixed e6 (w₁.tape w₁.drawn (.order b3.fn 6));exact Pp hv hn hp hq _ (fun _=>false) Bs a _ (List.all_eq_true.1 abm _ hm) h7 hs (fun b hb=>aH (hd b hb) y.size) (J4 h7 hs _ _ (fun b hb=>y.keep b (.inl hb)) y.size y.os hF) (hK.sub fun x hx=>by simpa[L6]using hx)
end
structure In3 (W:World) (p q:Int) (ao:Option Addr) (cap:Nat) (T:List ByteArray):Prop where
 p: -9223372036854775808≤p∧p≤9223372036854775807
 q: -9223372036854775808≤q∧q≤9223372036854775807
 x:TX W.heap.size ao T W
 s:∀t∈T,t.size≤281474976710656
 g:fD W
 t:iE W
 h7:7≤W.heap.size
def Gi (rows aa:Nat) (t:ByteArray):List Int:=Ba ((agR.fresh rows aa).feed (bl t)).t
def Ta (W:World) (p q:Int) (T:List ByteArray) (Us:Nat→ByteArray) (m:Machine) (t:Trace):Prop:=
 ∃(gs:Array Goroutine) (w:World) (sl:Option (Nat × Nat)) (a0:Goroutine) (qs:Nat→Nat) (Tm:Array Value) (db C Wg sb gb cap:Nat) (v:Value) (a:Act) (rest:List Nat),
  m=crowd gs w sl∧gs[0]? =some a0∧Leavers prog t gs qs∧Gw Wg t∧V9 db Tm∧Mr.contains rest=true∧Kn 74 [(5,v),(2,.pointer (some ⟨sb,0,none⟩))] a∧
  Go.Conc.Goes prog true AtRel DC0 (fun g' _=>g'=LV Tm [b3.at a (.inRegion e6 (5::rest)::[.code RB])]) 30 a0 w∧
  w.heap[db]? =some (.cells #[.slice (some ⟨C,0,none⟩) (min T.length 16) (min T.length 16)] 24)∧(∀i,i<min T.length 16→w.cell? ⟨C,i,none⟩=some (.string (Us i)))∧
  w.heap[sb]? =some (.cells #[.int .i64 p,.int .i64 q] 23)∧(∃Ty,v= .slice Ty (min T.length 16) cap∧(0<min T.length 16→Ty=some ⟨gb,0,none⟩))∧(∀i t,i<min T.length 16→T[i]? =some t→w.cell? ⟨gb,i,none⟩=some (.string t))∧
  (db≠Wg∧C≠Wg∧sb≠Wg∧(0<min T.length 16→gb≠Wg)∧C<w.heap.size)∧W.heap.size≤Wg∧Wg<w.heap.size∧(∀b,b<W.heap.size→w.heap[b]? =W.heap[b]?)∧w.os=W.os∧w.output=W.output∧w.tape=W.tape
theorem RZ{W:World}{ao:Option Addr}{cap:Nat}{T:List ByteArray}{a:Act}(h:In3 W p q ao cap T)(hK:Kn 74 [(0,.agg #[.int .i64 p,.int .i64 q]),(1,.slice ao T.length cap)] a){Us:Nat→ByteArray}(hU:∀k t,k<min T.length 16→T[k]? =some t→bl (Us k)=Gi (nA p) (ny q) t):
 ∃N m t,runNT prog N (solo (G (b3.at a [.code lI]) []) W) #[]=(.next m,t)∧Ta W p q T Us m t:=by
 obtain⟨r1,h1⟩:=adj (Bs:=fun b=>b<W.heap.size) (S:=fun _=>False) (cs:=[]) (fun b=>Iff.rfl) (bE _) h.x hK;obtain⟨N1,g1,w1,S1,u1,e1,⟨a1,v,sb,S1',rfl,hK1,hF1⟩,al1,sz1,kp1,os1,Vn,tp1⟩:=J6 #[] h1 (fun b hb=>hb.elim id False.elim);have Va:∀b,b<W.heap.size→w1.heap[b]? =W.heap[b]? :=fun b hb=>kp1 b hb id;have hG1:fD w1:=fun b hb=>by obtain⟨o,ho,x⟩:=h.g b hb;exact⟨o,(Va b (by have:=h.h7;omega)).trans ho,x⟩
 have hT1:iE w1:=h.t.kept fun k hk=>Va k (by have:=h.h7;omega);have lsb:sb<w1.heap.size:=(kP.1 hF1.box).1;obtain⟨Ty,cap',gb,hv,hao,hlt,hcl⟩:∃(Ty:Option Addr) (cap' gb:Nat),v= .slice Ty (min T.length 16) cap'∧(0<min T.length 16→Ty=some ⟨gb,0,none⟩)∧(0<min T.length 16→gb<w1.heap.size)∧(∀i t,i<min T.length 16→T[i]? =some t→w1.cell? ⟨gb,i,none⟩=some (.string t)):=by
  rcases hF1.row.2 with⟨rfl,h0⟩|⟨gb,cap',cur,rfl,_,hg,hnc,_,hcs,htk⟩
  ·exact⟨none,0,0,by rw[h0],fun x=>by omega,fun x=>by omega,fun i t hi _=>by omega⟩
  ·refine⟨_,cap',gb,rfl,fun _=>rfl,fun _=>(kP.1 hg).1,fun i t hi ht=>?_⟩;have:cur.toList[i]? =some (.string t):=by
    have e:(cur.toList.take (min T.length 16*1))[i]? =cur.toList[i]? :=by rw[List.getElem?_take_of_lt (by omega)]
    rw[←e,htk,sH,List.getElem?_take_of_lt hi,ht];rfl
   have:cur[i]? =some (.string t):=by simpa using this
   simp[World.cell?,hg,this]
 obtain⟨r2,h2⟩:=adk (Bs:=fun b=>b<w1.heap.size) (N0:=w1.heap.size) (cs:=[]) hv (by omega) h.p h.q (fun b hb=>by have:=h.h7;show b<w1.heap.size;omega) lsb (fun b hb=>hb) ⟨hF1.box,hG1,hT1,bE _⟩ hK1;obtain⟨N2,g2,w2,S2,u2,e2,⟨a2,rest,S2',hrest,hK2,hM⟩,al2,sz2,kp2,os2,acV,tp2⟩:=J6 u1 h2 (fun b hb=>hb.elim id False.elim);have Rj:∀b,b<w1.heap.size→w2.heap[b]? =w1.heap[b]? :=fun b hb=>kp2 b hb id;have hG2:fD w2:=fun b hb=>by obtain⟨o,ho,x⟩:=hG1 b hb;exact⟨o,(Rj b (by have:=h.h7;omega)).trans ho,x⟩
 have hT2:iE w2:=hT1.kept fun k hk=>Rj k (by have:=h.h7;omega);rw[hv]at hM;have hTs:∀k,k<min T.length 16→∃t,T[k]? =some t:=fun k hk=>⟨_,gK (by omega)⟩;let Ts:Nat→ByteArray:=fun k=>(T[k]?).getD ⟨#[]⟩;have eTs:∀k t,T[k]? =some t→Ts k=t:=fun k t e=>by simp[Ts,e]
 obtain⟨N3,m3,t3,e3,C,hC0,_,gs,w3,sl,a0,qs,Tm,db,rfl,g0,hL,hP,UR,hgo,hC,hdb,Ri,hres,kp3,hlt3,os3,acW,tp3⟩:=MP (gb:=gb) (Ts:=Ts) (Us:=Us) (u:=u1++u2) hM (mY p) (mX q) (by omega) (fun h0=>⟨hao h0,hlt h0⟩)
  (fun k hk=>by obtain⟨t,ht⟩:=hTs k hk;rw[eTs k t ht];exact(cell_of_block (Rj gb (hlt (by omega))) k).trans (hcl k t hk ht))
  (fun k hk=>by obtain⟨t,ht⟩:=hTs k hk;rw[eTs k t ht];exact h.s t (fu ht))
  (fun k hk=>by obtain⟨t,ht⟩:=hTs k hk;rw[eTs k t ht];exact hU k t hk ht) (by have:=h.h7;omega) hG2 hT2 (al1.app al2 sz2)
 have Vb:∀b,b<w1.heap.size→w3.heap[b]? =w1.heap[b]? :=fun b hb=>(kp3 b (by omega) (by omega)).trans (Rj b hb);have hu:(#[]:Trace)++u1=u1:=by simp
 rw[hu]at e1;refine⟨N1+(N2+N3),_,t3,oU e1 (oU e2 e3),gs,w3,sl,a0,qs,Tm,db,C,w2.heap.size,sb,gb,cap',v,a2,rest,rfl,g0,hL,hP,UR,hrest,hK2,hgo,Ri,hres,(Vb sb lsb).trans hF1.box,⟨Ty,hv,hao⟩,fun i t hi ht=>(cell_of_block (Vb gb (hlt (by omega))) i).trans (hcl i t hi ht),⟨by omega,by omega,by omega,fun h0=>by have:=hlt h0;omega,by omega⟩,by omega,hlt3,fun b hb=>(Vb b (by omega)).trans (Va b hb),os3.trans (os2.trans os1),acW.trans (acV.trans Vn),tp3.trans (tp2.trans tp1)⟩
open Go.ConcR (KK wgBlock WgAt stA smA rd wr Payload Aside2 DC0 ofEvent_cell)
set_option linter.unusedSimpArgs false
set_option linter.unusedVariables false
structure PP where
 db:Nat
 C:Nat
 sb:Nat
 gb:Nat
 n:Nat
 cap:Nat
 p:Int
 q:Int
 v:Value
 T:List ByteArray
 Us:Nat→ByteArray
structure PP.Ok (x:PP):Prop where
 n16:x.n≤16
 nT:x.n≤x.T.length
 p: -9223372036854775808≤x.p∧x.p≤9223372036854775807
 q: -9223372036854775808≤x.q∧x.q≤9223372036854775807
 v:∃ao,x.v= .slice ao x.n x.cap∧(0<x.n→ao=some ⟨x.gb,0,none⟩)
 s:∀t∈x.T,t.size≤281474976710656
 U:∀k t,k<x.n→x.T[k]? =some t→bl (x.Us k)=Gi (nA x.p) (ny x.q) t
structure PP.On (x:PP) (Bs:Nat→Prop):Prop where
 b7:∀b,b<7→Bs b
 db:Bs x.db
 C:Bs x.C
 sb:Bs x.sb
 gb:0<x.n→Bs x.gb
theorem PP.On.mono{x:PP}{Bs Qm:Nat→Prop}(h:x.On Bs)(hb:∀b,Bs b→Qm b):x.On Qm:=⟨fun b hb'=>hb b (h.b7 b hb'),hb _ h.db,hb _ h.C,hb _ h.sb,fun h0=>hb _ (h.gb h0)⟩
structure FP (x:PP) (w:World):Prop where
 d:w.cell? ⟨x.db,0,none⟩=some (.slice (some ⟨x.C,0,none⟩) x.n x.n)
 c:∀i,i<x.n→w.cell? ⟨x.C,i,none⟩=some (.string (x.Us i))
 box:w.heap[x.sb]? =some (.cells #[.int .i64 x.p,.int .i64 x.q] 23)
 x:∀i t,i<x.n→x.T[i]? =some t→w.cell? ⟨x.gb,i,none⟩=some (.string t)
 g:fD w
 t:iE w
theorem Ex{x:PP}{Bs:Nat→Prop}(h:x.On Bs):Ec Bs (FP x):=fun w w' hk hz _ y=>
 ⟨(cell_of_block (hk _ h.db) 0).trans y.d,fun i hi=>(cell_of_block (hk _ h.C) i).trans (y.c i hi),(hk _ h.sb).trans y.box,fun i t hi ht=>(cell_of_block (hk _ (h.gb (by omega))) i).trans (y.x i t hi ht),
   fun b hb=>by obtain⟨o,ho,z⟩:=y.g b hb;exact⟨o,(hk b (h.b7 b hb)).trans ho,z⟩,y.t.kept fun k hk'=>hk k (h.b7 k (by omega))⟩
theorem aA{x:PP}{Bs:Nat→Prop}(h:x.On Bs)(y:FP x w)(r:RY (fun b=>Bs b∨S b) w w₁):FP x w₁:=Ex h w w₁ (fun b hb=>r.keep b (.inl hb)) r.size r.os y
theorem ZN:q14[0]? =some {dst:=some 33,op:=.load 24 (.tmp 8),type:=24,pos:= "slate.go:123",after:=#[],guard:=none}:=rfl
theorem ZO:q14[1]? =some {dst:=some 6,op:=.assign (.tmp 33),type:=24,pos:= "slate.go:123",after:=#[{on:=0,ground:=.data},{on:=0,ground:=.phase}],guard:=none}:=rfl
noncomputable def p14:Oper:=(q14[2]?).getD default
theorem ZP:q14[2]? =some p14:=rfl
section
variable {main:Bool} {Bs S:Nat→Prop} {Stop:(Nat→Prop)→Goroutine→World→Prop} {w:World} {b b₀:Frame} {a a₀:Act} {kk todo:List Item} {cs:List Frame} {ops:Array Oper} {i:Nat} {rest:List Nat} {n:Nat} {L:List (Nat × Value)}
theorem K_{fn:Func}{t u:Tmp}{x y:Value}(hK:Kn n L a)(hn:b.kind= .normal)(hf:prog.funcs[b.fn]? =some fn)(hr:fn.results= #[.tmp t,.tmp u])(h1:(t,x)∈L)(h2:(u,y)∈L)(h:∀w₁,RY (fun b=>Bs b∨S b) w w₁→GE prog main Bs Stop S (G (b₀.at (a₀.put ((ops[i]?).bind (·.dst)) (.tuple #[x,y])) (.inRegion ops rest::kk)) cs) w₁):
 GE prog main Bs Stop S (G {b.at a todo with mode:=.returning} (b₀.at a₀ (.inRegion ops (i::rest)::kk)::cs)) w:=by
 refine au rfl (fun w=>?_) h;rw[stepG_leave hn hK.df hf (results_tmp2 hr _ prog w) (events_results_tmp2 hr _ _),Frame.finish_at];have e1:=hK.at h1;have e2:=hK.at h2;simp[e1,e2]
end
section
variable {x:PP} {Bs:Nat→Prop} {Stop:(Nat→Prop)→Goroutine→World→Prop} {w:World} {a:Act} {T:Array Value} {cs:List Frame} {rest:List Nat}
theorem MO(ho:x.On Bs)(hT:V9 x.db T)(hF:FP x w)(next:∀w',RY (fun b=>Bs b∨False) w w'→GE prog true Bs Stop (fun _=>False) (G (b3.at (a.put (some 36) (.tuple #[.slice (some ⟨x.C,0,none⟩) x.n x.n,.int .i64 0])) (.inRegion e6 rest::[.code RB])) cs) w'):
 GE prog true Bs Stop (fun _=>False) (LV T (b3.at a (.inRegion e6 (5::rest)::[.code RB])::cs)) w:=by
 have y0:RY (fun b=>Bs b∨False) w w:=.refl w;unfold LV;have e13:(q13[0]?).bind (·.dst)=some 32:=rfl;rw[e13];have hK:Kn 34 [(8,.pointer (some ⟨x.db,0,none⟩))] ⟨T,[]⟩:=⟨hT.1,rfl,fun p hp=>by simp only[di,eU,eX]at hp;subst hp;exact hT.2⟩
 replace hK:=hK.put (d:=32) (by decide) rfl (.tuple #[])
 generalize ((⟨T,[]⟩:Act).put (some 32) (.tuple #[]))=a' at hK ⊢;refine au rfl (fun _=>stepG_region_end) fun w₁ y=>?_
 replace y0:=y0.trans y
 unfold Qb;refine au rfl (fun _=>stepG_seq) fun w₁ y=>?_
 replace y0:=y0.trans y
 refine au rfl (fun _=>stepG_region) fun w₁ y=>?_
 replace y0:=y0.trans y
 rw[r14];refine J8 (.inr (.inr rfl)) hK ZN (ai rfl) (by decide) rfl (hK.get (List.mem_cons_of_mem _ List.mem_cons_self)) (.inl ho.db) (fun w₁ y=>(aA ho hF (y0.trans y)).d) yY rfl (by decide) rfl fun a' w₁ y hK=>?_
 replace y0:=y0.trans y
 refine aR hK ZO (ai rfl) (by decide) (.inr rfl) (hK.get List.mem_cons_self) rfl (by decide) rfl fun a' w₁ y hK=>?_
 replace y0:=y0.trans y
 refine aR (x:=.const (.int .i64 0)) (v:=.int .i64 0) (d:=7) hK ZP (ai rfl) (by decide) (.inr rfl) rfl rfl (by decide) rfl fun a' w₁ y hK=>?_
 replace y0:=y0.trans y
 refine au rfl (fun _=>stepG_region_end) fun w₁ y=>?_
 replace y0:=y0.trans y
 refine au rfl (fun _=>stepG_ret') fun w₁ y=>?_
 replace y0:=y0.trans y
 refine K_ (t:=6) (u:=7) hK rfl func5 rfl (List.mem_cons_of_mem _ List.mem_cons_self) List.mem_cons_self fun w₁ y=>?_;exact next w₁ (y0.trans y)
end
noncomputable def yV (a:Act) (cs:List Frame):Goroutine:=G (b3.at a [.code LC,.inLoop LC,.inBlock 2,.code (.seq (.region 18 e18 false) .ret)]) cs
section
variable {x:PP} {Bs:Nat→Prop} {Stop:(Nat→Prop)→Goroutine→World→Prop} {w:World} {a:Act} {cs:List Frame}
theorem GN(hx:x.Ok)(ho:x.On Bs)(hd:∀b,Bs b→b<w.heap.size)(hF:FP x w)(hK:Kn 74 [(8,.int .i64 0),(7,.slice (some ⟨x.C,0,none⟩) x.n x.n),(5,x.v),(2,.pointer (some ⟨x.sb,0,none⟩))] a)(next:∀a' w',Kn 74 [(9,.int .i64 ((0:Nat):Int)),(7,.slice (some ⟨x.C,0,none⟩) x.n x.n),(5,x.v),(2,.pointer (some ⟨x.sb,0,none⟩))] a'→FP x w'→(∀b,Bs b→b<w'.heap.size)→GE prog true Bs Stop (fun _=>False) (yV a' cs) w'):
 GE prog true Bs Stop (fun _=>False) (G (b3.at a (.inRegion e6 []::[.code RB])) cs) w:=by
 obtain⟨ao,hv,_⟩:=hx.v;refine au rfl (fun _=>stepG_region_end) fun w₁ y=>?_
 replace hF:=aA ho hF y
 replace hd:=fun b hb=>aH (hd b hb) y.size
 clear y;unfold RB;refine au rfl (fun _=>stepG_seq) fun w₁ y=>?_
 replace hF:=aA ho hF y
 replace hd:=fun b hb=>aH (hd b hb) y.size
 clear y;refine au rfl (fun _=>stepG_seq) fun w₁ y=>?_
 replace hF:=aA ho hF y
 replace hd:=fun b hb=>aH (hd b hb) y.size
 clear y;refine au rfl (fun _=>stepG_region) fun w₁ y=>?_
 replace hF:=aA ho hF y
 replace hd:=fun b hb=>aH (hd b hb) y.size
 clear y;rw[rg7];refine aR hK abL (ai rfl) (by decide) (.inl rfl) (hK.get (List.mem_cons_self)) rfl (by decide) rfl fun a w₁ y hK=>?_
 replace hF:=aA ho hF y
 replace hd:=fun b hb=>aH (hd b hb) y.size
 clear y;refine bZ (v:=.bool false) hK abM (ai rfl) (by decide) rfl (by decide) rfl (fun w=>by have e0:=hK.at (List.mem_cons_self);constructor<;>(unfold execOp;simp[go_sem,e0])) fun a w₁ y hK=>?_
 replace hF:=aA ho hF y
 replace hd:=fun b hb=>aH (hd b hb) y.size
 clear y;refine aR hK abN (ai rfl) (by decide) (.inl rfl) (hK.get (List.mem_cons_self)) rfl (by decide) rfl fun a w₁ y hK=>?_
 replace hF:=aA ho hF y
 replace hd:=fun b hb=>aH (hd b hb) y.size
 clear y;refine aR hK abO ((hK.wanted (t:=false) rfl rfl (List.mem_cons_self)).trans rfl) (by decide) (.inl rfl) (hK.get (List.mem_cons_of_mem _ (List.mem_cons_of_mem _ (List.mem_cons_of_mem _ (List.mem_cons_of_mem _ List.mem_cons_self))))) rfl (by decide) rfl fun a w₁ y hK=>?_
 replace hF:=aA ho hF y
 replace hd:=fun b hb=>aH (hd b hb) y.size
 clear y;refine bZ (v:=.int .i64 x.n) hK abP ((hK.wanted (t:=false) rfl rfl (List.mem_cons_of_mem _ List.mem_cons_self)).trans rfl) (by decide) rfl (by decide) rfl (fun w=>by have e0:=hK.at (List.mem_cons_self);constructor<;>(unfold execOp;simp[go_sem,e0])) fun a w₁ y hK=>?_
 replace hF:=aA ho hF y
 replace hd:=fun b hb=>aH (hd b hb) y.size
 clear y;refine aR hK abQ ((hK.wanted (t:=false) rfl rfl (List.mem_cons_of_mem _ (List.mem_cons_of_mem _ List.mem_cons_self))).trans rfl) (by decide) (.inl rfl) (hK.get (List.mem_cons_of_mem _ (List.mem_cons_of_mem _ (List.mem_cons_of_mem _ (List.mem_cons_of_mem _ (List.mem_cons_of_mem _ (List.mem_cons_of_mem _ (List.mem_cons_of_mem _ List.mem_cons_self)))))))) rfl (by decide) rfl fun a w₁ y hK=>?_
 replace hF:=aA ho hF y
 replace hd:=fun b hb=>aH (hd b hb) y.size
 clear y;refine bZ (v:=.int .i64 x.n) hK abR ((hK.wanted (t:=false) rfl rfl (List.mem_cons_of_mem _ (List.mem_cons_of_mem _ (List.mem_cons_of_mem _ List.mem_cons_self)))).trans rfl) (by decide) rfl (by decide) rfl (fun w=>by have e0:=hK.at (List.mem_cons_self);constructor<;>(unfold execOp;simp[go_sem,e0,hv])) fun a w₁ y hK=>?_
 replace hF:=aA ho hF y
 replace hd:=fun b hb=>aH (hd b hb) y.size
 clear y;refine bZ (v:=.bool false) hK abS ((hK.wanted (t:=false) rfl rfl (List.mem_cons_of_mem _ (List.mem_cons_of_mem _ (List.mem_cons_of_mem _ (List.mem_cons_of_mem _ List.mem_cons_self))))).trans rfl) (by decide) rfl (by decide) rfl (fun w=>by have e0:=hK.at (List.mem_cons_of_mem _ (List.mem_cons_of_mem _ List.mem_cons_self));have e1:=hK.at (List.mem_cons_self);constructor<;>(unfold execOp;simp[go_sem,e0,e1])) fun a w₁ y hK=>?_
 replace hF:=aA ho hF y
 replace hd:=fun b hb=>aH (hd b hb) y.size
 clear y;refine bZ (v:=.bool false) hK abT (ai rfl) (by decide) rfl (by decide) rfl (fun w=>by have e0:=hK.at (List.mem_cons_of_mem _ (List.mem_cons_of_mem _ (List.mem_cons_of_mem _ (List.mem_cons_of_mem _ (List.mem_cons_of_mem _ List.mem_cons_self)))));have e1:=hK.at (List.mem_cons_self);constructor<;>(unfold execOp;simp[go_sem,e0,e1])) fun a w₁ y hK=>?_
 replace hF:=aA ho hF y
 replace hd:=fun b hb=>aH (hd b hb) y.size
 clear y;refine au rfl (fun _=>stepG_region_end) fun w₁ y=>?_
 replace hF:=aA ho hF y
 replace hd:=fun b hb=>aH (hd b hb) y.size
 clear y;refine au rfl (fun _=>stepG_cond (t:=false) (hK.get (List.mem_cons_self))) fun w₁ y=>?_
 replace hF:=aA ho hF y
 replace hd:=fun b hb=>aH (hd b hb) y.size
 clear y;simp only[Bool.false_eq_true, ↓reduceIte];refine au rfl (fun _=>stepG_skip) fun w₁ y=>?_
 replace hF:=aA ho hF y
 replace hd:=fun b hb=>aH (hd b hb) y.size
 clear y;unfold RC;refine au rfl (fun _=>stepG_seq) fun w₁ y=>?_
 replace hF:=aA ho hF y
 replace hd:=fun b hb=>aH (hd b hb) y.size
 clear y;refine au rfl (fun _=>stepG_seq) fun w₁ y=>?_
 replace hF:=aA ho hF y
 replace hd:=fun b hb=>aH (hd b hb) y.size
 clear y;refine au rfl (fun _=>stepG_region) fun w₁ y=>?_
 replace hF:=aA ho hF y
 replace hd:=fun b hb=>aH (hd b hb) y.size
 clear y;rw[rg9];refine aR (v:=.int .i64 0) hK abU (ai rfl) (by decide) (.inr rfl) rfl rfl (by decide) rfl fun a w₁ y hK=>?_
 replace hF:=aA ho hF y
 replace hd:=fun b hb=>aH (hd b hb) y.size
 clear y;refine au rfl (fun _=>stepG_region_end) fun w₁ y=>?_
 replace hF:=aA ho hF y
 replace hd:=fun b hb=>aH (hd b hb) y.size
 clear y;refine au rfl (fun _=>stepG_block) fun w₁ y=>?_
 replace hF:=aA ho hF y
 replace hd:=fun b hb=>aH (hd b hb) y.size
 clear y;refine au rfl (fun _=>stepG_loop) fun w₁ y=>?_
 replace hF:=aA ho hF y
 replace hd:=fun b hb=>aH (hd b hb) y.size
 clear y
 replace hK:=hK.sub (L':=[(9,.int .i64 0),(7,.slice (some ⟨x.C,0,none⟩) x.n x.n),(5,x.v),(2,.pointer (some ⟨x.sb,0,none⟩))]) (by intro p hp;simp only[di,eU,eX]at hp ⊢;rcases hp with rfl|rfl|rfl|rfl<;>simp)
 exact next a w₁ hK hF hd
theorem RI{rest:List Nat}(hrest:Mr.contains rest=true)(hx:x.Ok)(ho:x.On Bs)(hd:∀b,Bs b→b<w.heap.size)(hF:FP x w)(hK:Kn 74 [(36,.tuple #[.slice (some ⟨x.C,0,none⟩) x.n x.n,.int .i64 0]),(5,x.v),(2,.pointer (some ⟨x.sb,0,none⟩))] a)(next:∀a' w',Kn 74 [(9,.int .i64 ((0:Nat):Int)),(7,.slice (some ⟨x.C,0,none⟩) x.n x.n),(5,x.v),(2,.pointer (some ⟨x.sb,0,none⟩))] a'→FP x w'→(∀b,Bs b→b<w'.heap.size)→GE prog true Bs Stop (fun _=>False) (yV a' cs) w'):
 GE prog true Bs Stop (fun _=>False) (G (b3.at a (.inRegion e6 rest::[.code RB])) cs) w:=by
 have hm:rest=[6,7,8,9,10]∨rest=[6,7,9,8,10]∨rest=[6,8,7,9,10]:=by simpa[Mr]using hrest
 rcases hm with rfl|rfl|rfl
 ·refine aR hK Ua (ai rfl) (by decide) (.inl rfl) (hK.get (List.mem_cons_self)) rfl (by decide) rfl fun a w₁ y hK=>?_
  replace hF:=aA ho hF y
  replace hd:=fun b hb=>aH (hd b hb) y.size
  clear y;refine bZ (v:=.slice (some ⟨x.C,0,none⟩) x.n x.n) hK Ub (ai rfl) (by decide) rfl (by decide) rfl (fun w=>by have e0:=hK.at (List.mem_cons_self);constructor<;>(unfold execOp;simp[go_sem,e0])) fun a w₁ y hK=>?_
  replace hF:=aA ho hF y
  replace hd:=fun b hb=>aH (hd b hb) y.size
  clear y;refine bZ (v:=.int .i64 0) hK Uc (ai rfl) (by decide) rfl (by decide) rfl (fun w=>by have e0:=hK.at (List.mem_cons_of_mem _ List.mem_cons_self);constructor<;>(unfold execOp;simp[go_sem,e0])) fun a w₁ y hK=>?_
  replace hF:=aA ho hF y
  replace hd:=fun b hb=>aH (hd b hb) y.size
  clear y;refine aR hK Ud (ai rfl) (by decide) (.inr rfl) (hK.get (List.mem_cons_of_mem _ List.mem_cons_self)) rfl (by decide) rfl fun a w₁ y hK=>?_
  replace hF:=aA ho hF y
  replace hd:=fun b hb=>aH (hd b hb) y.size
  clear y;refine aR hK Oi (ai rfl) (by decide) (.inr rfl) (hK.get (List.mem_cons_of_mem _ List.mem_cons_self)) rfl (by decide) rfl fun a w₁ y hK=>?_
  replace hF:=aA ho hF y
  replace hd:=fun b hb=>aH (hd b hb) y.size
  clear y
  replace hK:=hK.sub (L':=[(8,.int .i64 0),(7,.slice (some ⟨x.C,0,none⟩) x.n x.n),(5,x.v),(2,.pointer (some ⟨x.sb,0,none⟩))]) (by intro p hp;simp only[di,eU,eX]at hp ⊢;rcases hp with rfl|rfl|rfl|rfl<;>simp)
  exact GN hx ho hd hF hK next
 ·refine aR hK Ua (ai rfl) (by decide) (.inl rfl) (hK.get (List.mem_cons_self)) rfl (by decide) rfl fun a w₁ y hK=>?_
  replace hF:=aA ho hF y
  replace hd:=fun b hb=>aH (hd b hb) y.size
  clear y;refine bZ (v:=.slice (some ⟨x.C,0,none⟩) x.n x.n) hK Ub (ai rfl) (by decide) rfl (by decide) rfl (fun w=>by have e0:=hK.at (List.mem_cons_self);constructor<;>(unfold execOp;simp[go_sem,e0])) fun a w₁ y hK=>?_
  replace hF:=aA ho hF y
  replace hd:=fun b hb=>aH (hd b hb) y.size
  clear y;refine aR hK Ud (ai rfl) (by decide) (.inr rfl) (hK.get (List.mem_cons_self)) rfl (by decide) rfl fun a w₁ y hK=>?_
  replace hF:=aA ho hF y
  replace hd:=fun b hb=>aH (hd b hb) y.size
  clear y;refine bZ (v:=.int .i64 0) hK Uc (ai rfl) (by decide) rfl (by decide) rfl (fun w=>by have e0:=hK.at (List.mem_cons_of_mem _ (List.mem_cons_of_mem _ List.mem_cons_self));constructor<;>(unfold execOp;simp[go_sem,e0])) fun a w₁ y hK=>?_
  replace hF:=aA ho hF y
  replace hd:=fun b hb=>aH (hd b hb) y.size
  clear y;refine aR hK Oi (ai rfl) (by decide) (.inr rfl) (hK.get (List.mem_cons_self)) rfl (by decide) rfl fun a w₁ y hK=>?_
  replace hF:=aA ho hF y
  replace hd:=fun b hb=>aH (hd b hb) y.size
  clear y
  replace hK:=hK.sub (L':=[(8,.int .i64 0),(7,.slice (some ⟨x.C,0,none⟩) x.n x.n),(5,x.v),(2,.pointer (some ⟨x.sb,0,none⟩))]) (by intro p hp;simp only[di,eU,eX]at hp ⊢;rcases hp with rfl|rfl|rfl|rfl<;>simp)
  exact GN hx ho hd hF hK next
 ·refine aR hK Ua (ai rfl) (by decide) (.inl rfl) (hK.get (List.mem_cons_self)) rfl (by decide) rfl fun a w₁ y hK=>?_
  replace hF:=aA ho hF y
  replace hd:=fun b hb=>aH (hd b hb) y.size
  clear y;refine bZ (v:=.int .i64 0) hK Uc (ai rfl) (by decide) rfl (by decide) rfl (fun w=>by have e0:=hK.at (List.mem_cons_self);constructor<;>(unfold execOp;simp[go_sem,e0])) fun a w₁ y hK=>?_
  replace hF:=aA ho hF y
  replace hd:=fun b hb=>aH (hd b hb) y.size
  clear y;refine bZ (v:=.slice (some ⟨x.C,0,none⟩) x.n x.n) hK Ub (ai rfl) (by decide) rfl (by decide) rfl (fun w=>by have e0:=hK.at (List.mem_cons_of_mem _ List.mem_cons_self);constructor<;>(unfold execOp;simp[go_sem,e0])) fun a w₁ y hK=>?_
  replace hF:=aA ho hF y
  replace hd:=fun b hb=>aH (hd b hb) y.size
  clear y;refine aR hK Ud (ai rfl) (by decide) (.inr rfl) (hK.get (List.mem_cons_self)) rfl (by decide) rfl fun a w₁ y hK=>?_
  replace hF:=aA ho hF y
  replace hd:=fun b hb=>aH (hd b hb) y.size
  clear y;refine aR hK Oi (ai rfl) (by decide) (.inr rfl) (hK.get (List.mem_cons_of_mem _ (List.mem_cons_of_mem _ List.mem_cons_self))) rfl (by decide) rfl fun a w₁ y hK=>?_
  replace hF:=aA ho hF y
  replace hd:=fun b hb=>aH (hd b hb) y.size
  clear y
  replace hK:=hK.sub (L':=[(8,.int .i64 0),(7,.slice (some ⟨x.C,0,none⟩) x.n x.n),(5,x.v),(2,.pointer (some ⟨x.sb,0,none⟩))]) (by intro p hp;simp only[di,eU,eX]at hp ⊢;rcases hp with rfl|rfl|rfl|rfl<;>simp)
  exact GN hx ho hd hF hK next
end
end Go.Proofs.YtheibfffilomcabGreatDoor
