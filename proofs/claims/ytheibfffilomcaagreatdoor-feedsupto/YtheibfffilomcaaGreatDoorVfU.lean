import Derived.Test.YtheibfffilomcaaGreatDoorTmaU
import Derived.Test.YtheibfffilomcaaGreatDoorVdU
set_option linter.all false
set_option maxRecDepth 100000
set_option maxHeartbeats 1000000
namespace Go.Proofs.YtheibfffilomcaaGreatDoor
open Go.RowKit Go.Proofs.Tryz
variable {w w':World} {B base g:Nat} {S:cz} {r:bY} {P:Nat→Prop} {ops:Array Oper} {rest:List Oper} {a:Act} {Q:Exit→Act→World→Prop}
theorem V_:(prog.info? 172).map (fun i=>(i.zero,i.size,i.bytes))=some (some (.slice none 0 0),1,24):=by kernel_rfl
theorem jP:(prog.info? 87).map (·.size)=some 13:=by kernel_rfl
def ShR (w:World) (B:Nat) (v:Value) (S:cz):Prop:=∃a cap,v= .slice a S.length cap∧S.length≤cap∧∀(i:Nat) (r:bY),S[i]? =some r→∃b o vr,a=some ⟨b,o,none⟩∧(B≤b∧∃cur fr,w.heap[b]? =some (.cells cur 172 fr)∧∃x n c,cur[0]? =some (.slice x n c))∧b<w.heap.size∧w.cell? ⟨b,o+i,none⟩=some vr∧dF w B vr r
theorem ShR.kept{w w':World}{B:Nat}{v:Value}{S:cz}(h:ShR w B v S){P:Nat→Prop}(c:Ch P w w')(hp:∀b,B≤b→¬P b):ShR w' B v S:=by obtain⟨a,cap,h1,h2,h3⟩:=h;refine⟨a,cap,h1,h2,fun i r hi=>?_⟩;obtain⟨b,o,vr,e,hB,hlt,hc,hr⟩:=h3 i r hi;have hk:=c.block b hlt (hp b hB.1);obtain⟨hB1,cur,fr,mF,hx⟩:=hB;exact⟨b,o,vr,e,⟨hB1,cur,fr,hk.trans mF,hx⟩,fJ hlt c.size,(dA hk).trans hc,hr.kept c hp⟩
theorem ShR.sm{v:Value}(h:ShR w B v S)(c:Sm w w'):ShR w' B v S:=h.kept c (fun _ _ h=>h)
theorem ShR.mono{B':Nat}{v:Value}(h:ShR w B v S)(hb:B'≤B):ShR w B' v S:=by obtain⟨a,cap,h1,h2,h3⟩:=h;refine⟨a,cap,h1,h2,fun i r hi=>?_⟩;obtain⟨b,o,vr,e,hB,hlt,hc,hr⟩:=h3 i r hi;exact⟨b,o,vr,e,⟨iD hb hB.1,hB.2⟩,hlt,hc,hr.mono hb⟩
def Off (w:World) (P:Nat→Prop):Prop:=∀k,P k→∀cur t fr,w.heap[k]? =some (.cells cur t fr)→t≠177∧t≠172
theorem dF.nk{v:Value}(h:dF w B v r)(c:Ch P w w')(ho:Off w P):dF w' B v r:=by obtain⟨a,cap,h1,h2,h3⟩:=h;refine⟨a,cap,h1,h2,fun j x hj=>?_⟩;obtain⟨b,o,e,⟨hB1,cur,fr,mF,hx⟩,hlt,hr⟩:=h3 j x hj;have hk:=c.block b hlt (fun hp=>(ho b hp cur _ fr mF).1 rfl);exact⟨b,o,e,⟨hB1,cur,fr,hk.trans mF,hx⟩,fJ hlt c.size,fun i v hv=>(dA hk).trans (hr i v hv)⟩
theorem ShR.nk{v:Value}(h:ShR w B v S)(c:Ch P w w')(ho:Off w P):ShR w' B v S:=by obtain⟨a,cap,h1,h2,h3⟩:=h;refine⟨a,cap,h1,h2,fun i r hi=>?_⟩;obtain⟨b,o,vr,e,⟨hB1,cur,fr,mF,hx⟩,hlt,hc,hr⟩:=h3 i r hi;have hk:=c.block b hlt (fun hp=>(ho b hp cur _ fr mF).2 rfl);exact⟨b,o,vr,e,⟨hB1,cur,fr,hk.trans mF,hx⟩,fJ hlt c.size,(dA hk).trans hc,hr.nk c ho⟩
theorem Off.one{cs:Array Value}{t:TypeId}{f:Nat × Nat}(hg:w.heap[g]? =some (.cells cs t f))(h1:t≠177)(h2:t≠172):Off w (· =g):=fun k hk cur t' fr hc=>by subst hk;rw[hg]at hc;cases hc;exact⟨h1,h2⟩
def uN (w:World) (B base:Nat) (v:Value) (S:cz):Prop:=∃vs:List Value,w.ownsRow base 172 1 v S.length vs∧∀(i:Nat) (r:bY),S[i]? =some r→∃vr,vs[i]? =some vr∧dF w B vr r
theorem uN.nil(w:World)(B base:Nat):uN w B base (.slice none 0 0) []:=⟨[],AU _ _ _ _,fun i r h=>by simp at h⟩
theorem uN.below{v:Value}(h:uN w B base v S)(hb:Below w.heap.size w w'):uN w' B base v S:=by obtain⟨vs,h1,h2⟩:=h;refine⟨vs,xU (row:=none) h1 ⟨hb.os,hb.tape,hb.output,hb.size,fun k hk _=>hb.block k hk⟩ (by cases hv:v.ownBlock<;>simp),fun i r hi=>?_⟩;obtain⟨vr,e,hr⟩:=h2 i r hi;exact⟨vr,e,hr.below hb⟩
theorem uN.nk{v:Value}(h:uN w B base v S)(c:Ch (· =g) w w')(ho:Off w (· =g))(hg:g<base):uN w' B base v S:=by
 obtain⟨vs,⟨h0,h1⟩,h2⟩:=h;refine⟨vs,⟨h0,?_⟩,fun i r hi=>?_⟩
 ·rcases h1 with h|⟨b,cap,cur,hv,hb,hgb,hn⟩
  ·exact .inl h
  ·exact .inr ⟨b,cap,cur,hv,hb,(c.block b (wK.1 hgb).1 (by omega)).trans hgb,hn⟩
 ·obtain⟨vr,e,hr⟩:=h2 i r hi;exact⟨vr,e,hr.nk c ho⟩
theorem uN.rd{v:Value}(h:uN w B base v S)(hB:B≤base):ShR w B v S:=by
 obtain⟨vs,⟨h1,h2⟩,h3⟩:=h;rcases h2 with⟨rfl,h0⟩|⟨g,cap,cur,rfl,hgb,hg,hn,_,hcs,htake⟩
 ·refine⟨none,0,by rw[h0],by omega,fun j x hj=>?_⟩;have:S=[]:=zT h0;subst this;simp at hj
 ·refine⟨_,cap,rfl,hn,fun i r hi=>?_⟩;obtain⟨vr,e,hr⟩:=h3 i r hi;refine⟨g,0,vr,rfl,⟨iD hB hgb,_,_,hg,?_⟩,(wK.1 hg).1,?_,hr⟩
  ·obtain⟨r0,hr0⟩:∃r0,S[0]? =some r0:=⟨_,eG (by have:=(gJ.1 hi).1;omega)⟩;obtain⟨v0,e0,a0,cap0,hv0,_⟩:=h3 0 r0 hr0;rw[←htake,mJ]at e0;refine⟨a0,r0.length,cap0,?_⟩;rw[hv0]at e0;split at e0
   ·simpa using e0
   ·cases e0
  rw[bG _ _ _ _ _ _ hg,lH];rw[←htake,mJ]at e;split at e
  ·simpa using e
  ·cases e
theorem dF.one{v:Value}(h:dF w B v r):v.oneCell'=true:=by obtain⟨a,cap,rfl,_⟩:=h;rfl
theorem xQ{o:Oper}(u:World)(hgd:o.guard=none)(x:Operand)(ho:o.op= .buildSlice 85 1 #[(0,x)])(ax:Option Addr)(n c:Nat)(hx:a.eval x= .slice ax n c)(h:wpList prog ops Q rest (a.put o.dst (.slice (some ⟨u.heap.size,0,none⟩) 1 1)) (u.alloc (.cells #[.slice ax n c] 172))):wpList prog ops Q (o::rest) a u:=by
 refine oq hgd fun K hK=>?_;have R:=hK _ _ h;have hr:(Instr.buildSlice 85 1 #[(0,.slice ax n c)]).run prog u= .ok (.slice (some ⟨u.heap.size,0,none⟩) 1 1) (u.alloc (.cells #[.slice ax n c] 172)):=by kernel_rfl
 unfold Oper.wp execOp;have hm:(#[(0,x)].map fun(i,x)=>(i,a.eval x))= #[(0,.slice ax n c)]:=by simp[hx]
 simp only[ho,hm,jV,hr,jU,mK];exact R
theorem um{o:Oper}(u:World)(hgd:o.guard=none)(s x:Operand)(ho:o.op= .call {callee:=.builtin .append,args:=#[s,x],argTypes:=#[85,85]})(B base:Nat)(v:Value)(S:cz)(ax:Option Addr)(nn cc:Nat)(r:bY)(hs:a.eval s=v)(own:uN u B base v S)(hr:dF u B (.slice ax nn cc) r)(hx:a.eval x= .slice (some ⟨u.heap.size,0,none⟩) 1 1)(hn:S.length≤1000000)(hb:base≤u.heap.size)(h:∀v' w',uN w' B base v' (S++[r])→u.grownBy w' v.ownBlock→wpList prog ops Q rest (a.put o.dst v') w'):
 wpList prog ops Q (o::rest) a (u.alloc (.cells #[.slice ax nn cc] 172)):=by
 obtain⟨i0,hi,hz0,hz1,hz2⟩:=info_parts V_;obtain⟨vs,jR,kM⟩:=own;refine jI _ hgd s x 85 ho base 172 i0 (.slice none 0 0) 1 24 underlying85 hi hz0 hz1 hz2 (by rfl) v _ _ hs (xS jR _) ⟨u.heap.size,0,none⟩ 1 1 [.slice ax nn cc] hx rfl (vK _ _ _) (by simp[Value.oneCell']) (by omega) ?_ ?_ ?_ ?_
 ·unfold maxLen;omega
 ·omega
 ·simp;omega
 ·intro v' w' hown hgrow hblk hkeep;have G:u.grownBy w' v.ownBlock:=⟨hgrow.os,hgrow.tape,hgrow.output,iD (by simp) hgrow.size,fun k hk hn=>(hgrow.block k (by simp;omega) hn).trans (gK u _ _ hk)⟩;have KR:∀vr r,dF u B vr r→dF w' B vr r:=fun vr r hq=>by
   obtain⟨a,cap,h1,h2,h3⟩:=hq;refine⟨a,cap,h1,h2,fun j c hj=>?_⟩;obtain⟨b,o,e,⟨hB,cur,fr,mF,hx⟩,hlt,hrg⟩:=h3 j c hj;have hne:some b≠v.ownBlock:=by
    rcases jR.2 with⟨rfl,_⟩|⟨g,cp,cu,rfl,hg1,hg2,_⟩
    ·intro e;cases e
    ·intro e;have e':b=g:=by simpa[Value.ownBlock]using e
     subst e';rw[mF]at hg2;cases hg2
   have hk:=G.block b hlt hne;exact⟨b,o,e,⟨hB,cur,fr,hk.trans mF,hx⟩,fJ hlt G.size,fun i v hv=>(dA hk).trans (hrg i v hv)⟩
  refine h v' w' ⟨vs++[.slice ax nn cc],?_,fun i q hq=>?_⟩ G
  ·rw[fU];exact hown
  ·have hlen:vs.length=S.length:=by have:=jR.1;omega
   by_cases hlt:i<S.length
   ·rw[qA hlt]at hq;obtain⟨vr,e,hr'⟩:=kM i q hq;exact⟨vr,by rw[qA (by omega)];exact e,KR _ _ hr'⟩
   ·have hi':i=S.length:=by have:=(gJ.1 hq).1;simp at this;omega
    subst hi';rw[og (bN _),Nat.sub_self]at hq;simp at hq;subst hq;exact⟨_,by rw[←hlen,og (bN _),Nat.sub_self];rfl,KR _ _ hr⟩
def aT (v:Value) (p:di):List Value:=v::aB p
theorem j5{v:Value}(hv:v.oneCell'=true)(p:di):∀x∈aT v p,x.oneCell'=true:=by
 intro x hx;rcases kK.1 hx with rfl|hx
 ·exact hv
 ·exact iM p x hx
theorem kH{u:World}{v:Value}{w0:World}(b0:Below base w0 u)(hB:base≤u.heap.size)(own:uN u B base v S)(g:u.grownBy w' v.ownBlock):Below base w0 w':=by
 refine b0.trans ⟨g.os,g.tape,g.output,g.size,fun k hk=>g.block k (by omega) ?_⟩;obtain⟨vs,own,_⟩:=own;rcases own.2 with⟨rfl,_⟩|⟨b,cap,cur,rfl,hb,_⟩
 ·intro e;cases e
 ·intro e;have e':k=b:=by simpa[Value.ownBlock]using e
  omega
theorem Ce(v vr:Value)(S:cz)(p:di)(at':Nat)(r:bY)(B:Nat)(w:World)(hS:ShR w B v S)(hr:dF w B vr r)(hl:S.length≤100)(hB:B≤w.heap.size):
 Calls prog 197 #[.agg (aT v p).toArray,.int .i64 (at':Int),vr] w fun e w'=>∃v',e= .returned (.agg (aT v' p).toArray)∧ShR w' B v' (S.set at' r)∧Below w.heap.size w w':=by
 have HS:Hid (ShR w B v S):=hS;have HR:Hid (dF w B vr r):=hr;obtain⟨a,cap,rfl,hcap,_⟩:=hS;obtain⟨ra,rc,rfl,hrc,_⟩:=hr;obtain⟨W,hW⟩:∃W,W=(w.alloc (.cells (aT (.slice a S.length cap) p).toArray 87)).alloc (.cells (aT (.slice none 0 0) aY).toArray 87):=⟨_,rfl⟩;have G0:W.heap[w.heap.size]? =some (.cells (aT (.slice a S.length cap) p).toArray 87 (0,0)):=by rw[hW];exact(gK _ _ _ (by simp)).trans (bV _ _)
 have G1:W.heap[w.heap.size+1]? =some (.cells (aT (.slice none 0 0) aY).toArray 87 (0,0)):=by
  have e:(w.alloc (.cells (aT (.slice a S.length cap) p).toArray 87)).heap.size=w.heap.size+1:=by simp
  rw[hW, ←e];exact bV _ _
 have SW:Sm w W:=by rw[hW];exact((Ch.refl _ _).alloc _).alloc _
 have Lm:Hid (W.heap.size=w.heap.size+2):=by show _=_;rw[hW];simp
 have HW:Hid _:=hW;have nK:Hid _:=G0;have nZ:Hid _:=G1;have Cs:Hid _:=SW;clear hW G0 G1 SW;go_enter func197,ntmps197;have h0:Below W.heap.size W ((w.alloc (.cells (aT (.slice a S.length cap) p).toArray 87)).alloc (.cells (aT (.slice none 0 0) aY).toArray 87)):=by rw[←HW.o];exact dU _ _
 have HH0:Hid _:=h0;clear h0;go_wp2_with fail;go_loopw [7,8] (fun v' i wr=>∃k:Nat,k≤S.length∧i= .int .i64 k∧uN wr B W.heap.size v' ((S.set at' r).take k)∧Below W.heap.size W wr) (fun _ i _=>S.length-(intOf i).toNat)
 case atStart=>exact⟨0,dx _,rfl,uN.nil _ _ _,HH0.o⟩
 case round=>
  clear HH0;obtain⟨k,hk,rfl,own,iB⟩:=hrel;have G0:=(iB.block _ (by have:=Lm.o;omega)).trans nK.o;have c0:wr.cell? ⟨w.heap.size,0,none⟩=some (.slice a S.length cap):=(bG _ _ _ _ _ _ G0).trans rfl;have f0:wr.frozen? ⟨w.heap.size,0,none⟩=false:=oh _ _ _ _ _ G0;have SR:Sm w wr:=Cs.o.trans (Ch.of_below iB);by_cases hlt:k<S.length
  ·have ik:(k:Int)<(S.length:Int):=by omega
   have vk:IntKind.i64.wrap ((k:Int)+1)=(k:Int)+1:=bD _ (by omega);have HO:Hid (uN wr B W.heap.size u7 ((S.set at' r).take k)):=own;have HB:Hid _:=iB;have hln:((S.set at' r).take k).length≤1000000:=by simp;omega
   have mW:Hid _:=hln;have HK:Hid (∀q,(S.set at' r)[k]? =some q→(S.set at' r).take (k+1)=(S.set at' r).take k++[q]):=fun q hq=>by obtain⟨h1,h2⟩:=gJ.1 hq;rw[o7 h1,h2]
   by_cases hat:k=at'
   ·have hq:(S.set at' r)[k]? =some r:=by rw[hat,List.getElem?_set_self (by omega)]
    have Mx:Hid _:=HK.o r hq;have RR:dF wr B (.slice ra r.length rc) r:=HR.o.sm SR;have HRR:Hid (dF wr B (.slice ra r.length rc) r):=RR;have d1:((k:Int)==(at':Int))=true:=by simp;omega
    have d1':decide ((k:Int)=(at':Int))=true:=by simp;omega
    clear own iB hq RR SR hat G0;go_wp2_with (first|(refine xQ wr rfl (.tmp 20) rfl ra r.length rc rfl ?_)|(refine um wr rfl (.tmp 19) (.tmp 21) rfl B W.heap.size _ _ ra r.length rc r rfl HO.o HRR.o rfl mW.o HB.o.size ?_));intro v' w' own' g';have b':=kH HB.o HB.o.size HO.o g';rw[←Mx.o]at own';go_wp2_with fail;go_roundw
    case rel=>exact⟨k+1,by omega,by go_num,own',b'⟩
    case measure=>simp[intOf];omega
   ·obtain⟨q,hq⟩:∃q,S[k]? =some q:=⟨_,eG hlt⟩;have hq':(S.set at' r)[k]? =some q:=by rw[List.getElem?_set_ne (fun e=>hat e.symm)];exact hq
    obtain⟨a2,cp2,e2,_,h3⟩:=HS.o;obtain⟨b,o,vq,ea,hBb,hbl,hcell,RQ⟩:=h3 k q hq;cases e2;subst ea;have RR:=RQ.sm SR;have PT:=RR;obtain⟨qa,qc,rfl,hqc,_⟩:=PT;have HRR:Hid (dF wr B (.slice qa q.length qc) q):=RR;have Mx:Hid _:=HK.o q hq';have cq:wr.cell? ⟨b,o+k,none⟩=some (.slice qa q.length qc):=(dA (SR.block b hbl id)).trans hcell;have d1:((k:Int)==(at':Int))=false:=by simp;omega
    have d1':decide ((k:Int)=(at':Int))=false:=by simp;omega
    clear own iB hq RR SR hat G0 h3 hq' RQ;go_wp2_with (first|(refine xQ wr rfl (.tmp 28) rfl qa q.length qc rfl ?_)|(refine um wr rfl (.tmp 23) (.tmp 29) rfl B W.heap.size _ _ qa q.length qc q rfl HO.o HRR.o rfl mW.o HB.o.size ?_));intro v' w' own' g';have b':=kH HB.o HB.o.size HO.o g';rw[←Mx.o]at own';go_wp2_with fail;go_roundw
    case rel=>exact⟨k+1,by omega,by go_num,own',b'⟩
    case measure=>simp[intOf];omega
  ·have ik:¬(k:Int)<(S.length:Int):=by omega
   obtain rfl:k=S.length:=by omega
   have hfull:(S.set at' r).take S.length=S.set at' r:=l6 (by simp);rw[hfull]at own;have G1:=(iB.block _ (by have:=Lm.o;omega)).trans nZ.o;have GA:(wr.setCell ⟨w.heap.size,0,none⟩ u7).heap[w.heap.size]? =some (.cells (aT u7 p).toArray 87 (0,0)):=(rR wr w.heap.size 0 _ 87 u7 G0).trans rfl;have GB:(wr.setCell ⟨w.heap.size,0,none⟩ u7).heap[w.heap.size+1]? =some (.cells (aT (.slice none 0 0) aY).toArray 87 (0,0)):=(uI wr _ _ _ (by simp)).trans G1;have kM:=own.rd (by have:=Lm.o;omega);have xD:=kM;obtain⟨a7,c7,e7,hc7,_⟩:=xD;rw[lG]at e7;subst e7;have HO:Hid (ShR wr B (.slice a7 S.length c7) (S.set at' r)):=kM;have WJ:Hid _:=G0;have TZ:Hid _:=SR;have HGA:Hid _:=GA;have VK:Hid _:=GB;clear own kM GA GB G0 G1 SR;go_wp2_with (first|(refine fC rfl 87 (.tmp 3) rfl w.heap.size rfl 87 _ (0,0) _ HGA.o underlying87 rfl jP ?_)|(refine bK _ rfl 87 (.tmp 6) (.tmp 33) rfl (w.heap.size+1) (aT (.slice none 0 0) aY) (aT (.slice a7 S.length c7) p) rfl _ rfl rfl 87 VK.o rfl jP (j5 rfl p) ?_));intro u2 g2 k2 z2;go_wp2_with fail;have SU:Sm w u2:=(TZ.o.trans' (⟨rfl,rfl,rfl,by simp[World.setCell],fun k hk hn=>uI wr _ k _ (by simpa using hn)⟩:Ch (· =w.heap.size) wr (wr.setCell ⟨w.heap.size,0,none⟩ (.slice a7 S.length c7))) (fun k hk e=>by omega)).trans' k2 (fun k hk e=>by omega);refine bX (eX results197 _ _ (w.heap.size+1) (aT (.slice a7 S.length c7) p) 87 (0,0) underlying87 jP rfl g2) rfl ⟨_,rfl,?_,SU.below (bN _) (fun _ _ h=>h)⟩;have C1:Ch (· =w.heap.size) wr (wr.setCell ⟨w.heap.size,0,none⟩ (.slice a7 S.length c7)):=⟨rfl,rfl,rfl,by simp[World.setCell],fun k hk hn=>uI wr _ k _ (by simpa using hn)⟩;exact(HO.o.nk C1 (Off.one WJ.o (by decide) (by decide))).nk k2 (Off.one VK.o (by decide) (by decide))
end Go.Proofs.YtheibfffilomcaaGreatDoor
