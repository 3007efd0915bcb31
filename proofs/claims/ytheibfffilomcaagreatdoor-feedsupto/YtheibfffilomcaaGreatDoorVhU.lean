import Derived.Test.YtheibfffilomcaaGreatDoorTmaU
import Derived.Test.YtheibfffilomcaaGreatDoorVfU
set_option linter.all false
set_option maxRecDepth 100000
set_option maxHeartbeats 4000000
namespace Go.Proofs.YtheibfffilomcaaGreatDoor
open Go.RowKit Go.Proofs.Tryz
variable {ds:List Deferred} {u:World} {K:Act→World→Prop} {Q:Exit→Act→World→Prop}
theorem BL{l:List Value}{d:Nat}{v:Value}:(⟨l.toArray,ds⟩:Act).put (some d) v=⟨(l.set d v).toArray,ds⟩:=by simp[Act.put]
theorem FL{o:Oper}{l:List Value}(d:Nat)(x:Operand)(ho:o.op= .buildSlice 85 1 #[(0,x)])(hd:o.dst=some d)(ax:Option Addr)(n c:Nat)(hx:Act.eval ⟨l.toArray,ds⟩ x= .slice ax n c)(h:K ⟨(l.set d (.slice (some ⟨u.heap.size,0,none⟩) 1 1)).toArray,ds⟩ (u.alloc (.cells #[.slice ax n c] 172))):Oper.wp prog o ⟨l.toArray,ds⟩ u K Q:=by
 have hr:(Instr.buildSlice 85 1 #[(0,.slice ax n c)]).run prog u= .ok (.slice (some ⟨u.heap.size,0,none⟩) 1 1) (u.alloc (.cells #[.slice ax n c] 172)):=by kernel_rfl
 unfold Oper.wp execOp;have hm:(#[(0,x)].map fun(i,x)=>(i,Act.eval ⟨l.toArray,ds⟩ x))= #[(0,.slice ax n c)]:=by simp[hx]
 simp only[ho,hm,jV,hr,jU,mK];rw[←BL, ←hd]at h;exact h
theorem RF(u:World)(ty:TypeId)(B base:Nat)(v:Value)(S:cz)(ax:Option Addr)(nn cc:Nat)(r:bY)(own:uN u B base v S)(hr:dF u B (.slice ax nn cc) r)(hn:S.length≤1000000)(hb:base≤u.heap.size):
 ∃v' w',(Builtin.append_ #[85,85] ty #[v,.slice (some ⟨u.heap.size,0,none⟩) 1 1]).run prog (u.alloc (.cells #[.slice ax nn cc] 172))= .ok v' w'∧uN w' B base v' (S++[r])∧u.grownBy w' v.ownBlock:=by
 obtain⟨i0,hi,hz0,hz1,hz2⟩:=info_parts V_;obtain⟨vs,jR,kM⟩:=own;obtain⟨v',w',hrun,hown,hgrow,hblk,hkeep⟩:=rF (P:=prog) (u.alloc (.cells #[.slice ax nn cc] 172)) base 85 ty 172 i0 (.slice none 0 0) 1 24 underlying85 hi hz0 hz1 hz2 (by rfl) v _ _ (xS jR _) ⟨u.heap.size,0,none⟩ 1 1 [.slice ax nn cc] rfl (vK _ _ _) (by simp[Value.oneCell']) (by omega) (by unfold maxLen;omega) (by omega) (by simp;omega);have G:u.grownBy w' v.ownBlock:=⟨hgrow.os,hgrow.tape,hgrow.output,iD (by simp) hgrow.size,fun k hk hn=>(hgrow.block k (by simp;omega) hn).trans (gK u _ _ hk)⟩;have KR:∀vr r,dF u B vr r→dF w' B vr r:=fun vr r hq=>by
  obtain⟨a,cap,h1,h2,h3⟩:=hq;refine⟨a,cap,h1,h2,fun j c hj=>?_⟩;obtain⟨b,o,e,⟨hB,cur,fr,mF,hx⟩,hlt,hrg⟩:=h3 j c hj;have hne:some b≠v.ownBlock:=by
   rcases jR.2 with⟨rfl,_⟩|⟨g,cp,cu,rfl,hg1,hg2,_⟩
   ·intro e;cases e
   ·intro e;have e':b=g:=by simpa[Value.ownBlock]using e
    subst e';rw[mF]at hg2;cases hg2
  have hk:=G.block b hlt hne;exact⟨b,o,e,⟨hB,cur,fr,hk.trans mF,hx⟩,fJ hlt G.size,fun i v hv=>(dA hk).trans (hrg i v hv)⟩
 refine⟨v',w',hrun,⟨vs++[.slice ax nn cc],?_,fun i q hq=>?_⟩,G⟩
 ·rw[fU];exact hown
 ·have hlen:vs.length=S.length:=by have:=jR.1;omega
  by_cases hlt:i<S.length
  ·rw[qA hlt]at hq;obtain⟨vr,e,hr'⟩:=kM i q hq;exact⟨vr,by rw[qA (by omega)];exact e,KR _ _ hr'⟩
  ·have hi':i=S.length:=by have:=(gJ.1 hq).1;simp at this;omega
   subst hi';rw[og (bN _),Nat.sub_self]at hq;simp at hq;subst hq;exact⟨_,by rw[←hlen,og (bN _),Nat.sub_self];rfl,KR _ _ hr⟩
theorem Ci{o:Oper}{l:List Value}(d:Nat)(s x:Operand)(ho:o.op= .call {callee:=.builtin .append,args:=#[s,x],argTypes:=#[85,85]})(hd:o.dst=some d)(B base:Nat)(v:Value)(S:cz)(ax:Option Addr)(nn cc:Nat)(r:bY)(hs:Act.eval ⟨l.toArray,ds⟩ s=v)(own:uN u B base v S)(hr:dF u B (.slice ax nn cc) r)(hx:Act.eval ⟨l.toArray,ds⟩ x= .slice (some ⟨u.heap.size,0,none⟩) 1 1)(hn:S.length≤1000000)(hb:base≤u.heap.size)(h:∀v' w',uN w' B base v' (S++[r])→u.grownBy w' v.ownBlock→K ⟨(l.set d v').toArray,ds⟩ w'):
 Oper.wp prog o ⟨l.toArray,ds⟩ (u.alloc (.cells #[.slice ax nn cc] 172)) K Q:=by
 obtain⟨v',w',hrun,h1,h2⟩:=RF u o.type B base v S ax nn cc r own hr hn hb;have R:=h v' w' h1 h2;rw[←BL, ←hd]at R;unfold Oper.wp execOp;simp only[ho,resolve,invoke,builtin,jV,mK,jU,List.map_toArray,List.map_cons,List.map_nil,hs,hx,hrun];exact R
theorem nE{o:Oper}{l:List Value}(d:Nat)(x:Operand)(ho:o.op= .load 85 x)(hd:o.dst=some d)(ad:Addr)(v:Value)(hx:Act.eval ⟨l.toArray,ds⟩ x= .pointer (some ad))(hc:u.cell? ad=some v)(h:K ⟨(l.set d v).toArray,ds⟩ u):Oper.wp prog o ⟨l.toArray,ds⟩ u K Q:=by unfold Oper.wp execOp;simp only[ho,hx];go_simp;exact h
theorem JU:(prog.info? 85).map (·.size)=some 1:=by kernel_rfl
theorem Dx(rows ah:Nat)(w:World)(hr:rows≤100)(hc:ah≤100):Calls prog 93 #[.int .i64 (rows:Int),.int .i64 (ah:Int)] w fun e w'=>∃v',e= .returned (.agg (aT v' aY).toArray)∧ShR w' 0 v' (List.replicate rows (List.replicate ah aM))∧Below w.heap.size w w':=by
 obtain⟨W,hW⟩:∃W,W=(w.alloc (.cells (aT (.slice none 0 0) aY).toArray 87)).alloc (.cells (aT (.slice none 0 0) aY).toArray 87):=⟨_,rfl⟩;have G0:W.heap[w.heap.size]? =some (.cells (aT (.slice none 0 0) aY).toArray 87 (0,0)):=by rw[hW];exact(gK _ _ _ (by simp)).trans (bV _ _)
 have G1:W.heap[w.heap.size+1]? =some (.cells (aT (.slice none 0 0) aY).toArray 87 (0,0)):=by
  have e:(w.alloc (.cells (aT (.slice none 0 0) aY).toArray 87)).heap.size=w.heap.size+1:=by simp
  rw[hW, ←e];exact bV _ _
 have SW:Sm w W:=by rw[hW];exact((Ch.refl _ _).alloc _).alloc _
 have Lm:Hid (W.heap.size=w.heap.size+2):=by show _=_;rw[hW];simp
 have HW:Hid _:=hW;have nK:Hid _:=G0;have nZ:Hid _:=G1;have Cs:Hid _:=SW;obtain⟨g,hg⟩:∃g,g=w.heap.size+1:=⟨_,rfl⟩;have HG:Hid _:=hg;clear hW G0 G1 SW hg;go_enter func93,ntmps93;have R0:∃v',((w.alloc (.cells (aT (.slice none 0 0) aY).toArray 87)).alloc (.cells (aT (.slice none 0 0) aY).toArray 87)).heap[g]? =some (.cells (aT v' aY).toArray 87 (0,0))∧uN ((w.alloc (.cells (aT (.slice none 0 0) aY).toArray 87)).alloc (.cells (aT (.slice none 0 0) aY).toArray 87)) 0 W.heap.size v' []∧Ch (· =g) W ((w.alloc (.cells (aT (.slice none 0 0) aY).toArray 87)).alloc (.cells (aT (.slice none 0 0) aY).toArray 87)):=by rw[←HW.o];exact⟨.slice none 0 0,by rw[HG.o];exact nZ.o,uN.nil _ _ _,Ch.refl _ _⟩
 have HR0:Hid _:=R0;clear R0;go_wp2_with fail;rw[show w.heap.size+1=g from HG.o.symm];go_loopw [6] (fun i wr=>∃k:Nat,k≤rows∧i= .int .i64 k∧∃v',wr.heap[g]? =some (.cells (aT v' aY).toArray 87 (0,0))∧uN wr 0 W.heap.size v' (List.replicate k (List.replicate ah aM))∧Ch (· =g) W wr) (fun i _=>rows-(intOf i).toNat)
 case atStart=>exact⟨0,dx _,rfl,HR0.o⟩
 case round=>
  clear HR0;obtain⟨k,hk,rfl,v',gv,own,ch⟩:=hrel;have hgl:=aK gv;obtain⟨va,vc,ev,hvc,_⟩:=own.rd (dx _);rw[kJ]at ev;subst ev;by_cases hlt:k<rows
  ·have ik:(k:Int)<(rows:Int):=by omega
   have vk:IntKind.i64.wrap ((k:Int)+1)=(k:Int)+1:=bD _ (by omega);go_wp2_with fail;have c0:World.cell? ({wr with drawn:=wr.drawn+1}:World) ⟨g,0,none⟩=some (.slice va k vc):=(bG wr _ _ _ _ _ gv).trans rfl;refine dX (S:=fun _=>True) aX ?_;refine dW 0 2 trivial ?_;simp only[ag,af];refine lQ 1 3 ?_ ?_
   ·refine dI ?_;refine nE 13 (.tmp 12) rfl rfl ⟨g,0,none⟩ (.slice va k vc) rfl c0 ?_;refine⟨trivial,?_⟩
    try simp only[ag,af]
    refine av 3 ?_;refine a_ (vs:=[.int .i64 (ah:Int)]) (R:=fun v w'=>gL w' wr.heap.size v (List.replicate ah aM)∧Below wr.heap.size wr w') ((iE ah _ (by omega)).mono fun e w' h=>by obtain⟨v,h1,h2,h3⟩:=h;exact⟨_,h1,h2,⟨h3.os,h3.tape,h3.output,h3.size,h3.block⟩⟩) ?_;rintro v2 w1 ⟨O1,b1⟩;have kU:=(b1.block g hgl).trans gv;have c1:w1.cell? ⟨g,0,none⟩=some (.slice va k vc):=(bG _ _ _ _ _ _ kU).trans rfl;refine⟨trivial,?_⟩
    try simp only[ag,af]
    have RD:=O1.rd.mono (dx _);obtain⟨xa,xc,ex,hxc,hxx⟩:=RD;rw[kJ]at ex;subst ex;have RD:dF w1 0 (.slice xa ah xc) (List.replicate ah aM):=O1.rd.mono (dx _);have jR:=own.below b1;have c2:World.cell? (w1.alloc (.cells #[.slice xa ah xc] 172)) ⟨g,0,none⟩=some (.slice va k vc):=(dA (gK _ _ _ (fJ hgl b1.size))).trans c1;refine av 4 ?_;refine FL 16 (.tmp 15) rfl rfl xa ah xc rfl ?_;refine⟨trivial,?_⟩
    try simp only[ag,af]
    refine av 5 ?_;refine Ci 17 (.tmp 13) (.tmp 16) rfl rfl 0 W.heap.size _ _ xa ah xc _ rfl jR RD rfl (by simp;omega) (iD ch.size b1.size) ?_;intro v3 w3 xD g3';have g3:World.grownBy w1 w3 (Value.slice va k vc).ownBlock:=g3';clear g3';refine⟨trivial,?_⟩
    try simp only[ag,af]
    have hne:some g≠(Value.slice va k vc).ownBlock:=by
     obtain⟨vs,ow,_⟩:=own;rcases ow.2 with⟨e,_⟩|⟨b,cap,cur,e,hb,_⟩
     ·rw[e];intro x;cases x
     ·rw[e];intro x;have e':g=b:=by simpa[Value.ownBlock]using x
      have:=HG.o;have:=Lm.o;omega
    have QG:=(g3.block g (fJ hgl b1.size) hne).trans kU;have Hz:=xD.rd (dx _);obtain⟨ya,yc,ey,hyc,_⟩:=Hz;have ey2:(List.replicate k (List.replicate ah aM)++[List.replicate ah aM]).length=k+1:=by simp
    rw[ey2]at ey;subst ey;refine aj 6 trivial ?_;simp only[ag,af];refine av 7 ?_;refine mh 85 JU (.tmp 18) (.tmp 17) rfl rfl g 0 (aT (.slice va k vc) aY) (aT (.slice ya (k+1) yc) aY) _ (by simp[aT]) rfl rfl rfl rfl rfl 87 QG ?_;intro w4 V3 k4;refine⟨trivial,?_⟩
    try simp only[ag,af]
    refine aC ?_
    have C3:Ch (· =g) W w3:=⟨g3.os.trans (b1.os.trans ch.os),g3.tape.trans (b1.tape.trans ch.tape),g3.output.trans (b1.output.trans ch.output),iD ch.size (iD b1.size g3.size),fun q hq hn=>by
     have h1:q<wr.heap.size:=fJ hq ch.size;refine((g3.block q (fJ h1 b1.size) ?_).trans (b1.block q h1)).trans (ch.block q hq hn);obtain⟨vs,ow,_⟩:=own;rcases ow.2 with⟨e,_⟩|⟨b,cap,cur,e,hb,_⟩
     ·rw[e];intro x;cases x
     ·rw[e];intro x;have e':q=b:=by simpa[Value.ownBlock]using x
      omega⟩
    have HZ:uN w4 0 W.heap.size (.slice ya (k+1) yc) (List.replicate (k+1) (List.replicate ah aM)):=by rw[List.replicate_succ'];exact xD.nk k4 (Off.one QG (by decide) (by decide)) (by have:=HG.o;have:=Lm.o;omega)
    have Z7:Hid (uN w4 0 W.heap.size (.slice ya (k+1) yc) (List.replicate (k+1) (List.replicate ah aM))):=HZ;have Co:Hid _:=V3;have OX:Hid _:=C3.trans k4;clear own jR xD HZ gv kU QG V3 C3 k4 g3 b1 O1 RD hxx ch c0 c1 c2 hne;go_wp2_with fail;go_roundw
    case rel=>exact⟨k+1,by omega,by go_num,_,Co.o,Z7.o,OX.o⟩
    case measure=>simp[intOf];omega
   ·refine dI ?_;refine a_ (vs:=[.int .i64 (ah:Int)]) (R:=fun v w'=>gL w' wr.heap.size v (List.replicate ah aM)∧Below wr.heap.size wr w') ((iE ah _ (by omega)).mono fun e w' h=>by obtain⟨v,h1,h2,h3⟩:=h;exact⟨_,h1,h2,⟨h3.os,h3.tape,h3.output,h3.size,h3.block⟩⟩) ?_;rintro v2 w1 ⟨O1,b1⟩;have kU:=(b1.block g hgl).trans gv;have c1:w1.cell? ⟨g,0,none⟩=some (.slice va k vc):=(bG _ _ _ _ _ _ kU).trans rfl;refine⟨trivial,?_⟩
    try simp only[ag,af]
    have RD:=O1.rd.mono (dx _);obtain⟨xa,xc,ex,hxc,hxx⟩:=RD;rw[kJ]at ex;subst ex;have RD:dF w1 0 (.slice xa ah xc) (List.replicate ah aM):=O1.rd.mono (dx _);have jR:=own.below b1;have c2:World.cell? (w1.alloc (.cells #[.slice xa ah xc] 172)) ⟨g,0,none⟩=some (.slice va k vc):=(dA (gK _ _ _ (fJ hgl b1.size))).trans c1;refine lQ 1 4 ?_ ?_
    ·refine dI ?_;refine nE 13 (.tmp 12) rfl rfl ⟨g,0,none⟩ (.slice va k vc) rfl c1 ?_;refine⟨trivial,?_⟩
     try simp only[ag,af]
     refine av 4 ?_;refine FL 16 (.tmp 15) rfl rfl xa ah xc rfl ?_;refine⟨trivial,?_⟩
     try simp only[ag,af]
     refine av 5 ?_;refine Ci 17 (.tmp 13) (.tmp 16) rfl rfl 0 W.heap.size _ _ xa ah xc _ rfl jR RD rfl (by simp;omega) (iD ch.size b1.size) ?_;intro v3 w3 xD g3';have g3:World.grownBy w1 w3 (Value.slice va k vc).ownBlock:=g3';clear g3';refine⟨trivial,?_⟩
     try simp only[ag,af]
     have hne:some g≠(Value.slice va k vc).ownBlock:=by
      obtain⟨vs,ow,_⟩:=own;rcases ow.2 with⟨e,_⟩|⟨b,cap,cur,e,hb,_⟩
      ·rw[e];intro x;cases x
      ·rw[e];intro x;have e':g=b:=by simpa[Value.ownBlock]using x
       have:=HG.o;have:=Lm.o;omega
     have QG:=(g3.block g (fJ hgl b1.size) hne).trans kU;have Hz:=xD.rd (dx _);obtain⟨ya,yc,ey,hyc,_⟩:=Hz;have ey2:(List.replicate k (List.replicate ah aM)++[List.replicate ah aM]).length=k+1:=by simp
     rw[ey2]at ey;subst ey;refine aj 6 trivial ?_;simp only[ag,af];refine av 7 ?_;refine mh 85 JU (.tmp 18) (.tmp 17) rfl rfl g 0 (aT (.slice va k vc) aY) (aT (.slice ya (k+1) yc) aY) _ (by simp[aT]) rfl rfl rfl rfl rfl 87 QG ?_;intro w4 V3 k4;refine⟨trivial,?_⟩
     try simp only[ag,af]
     refine aC ?_
     have C3:Ch (· =g) W w3:=⟨g3.os.trans (b1.os.trans ch.os),g3.tape.trans (b1.tape.trans ch.tape),g3.output.trans (b1.output.trans ch.output),iD ch.size (iD b1.size g3.size),fun q hq hn=>by
      have h1:q<wr.heap.size:=fJ hq ch.size;refine((g3.block q (fJ h1 b1.size) ?_).trans (b1.block q h1)).trans (ch.block q hq hn);obtain⟨vs,ow,_⟩:=own;rcases ow.2 with⟨e,_⟩|⟨b,cap,cur,e,hb,_⟩
      ·rw[e];intro x;cases x
      ·rw[e];intro x;have e':q=b:=by simpa[Value.ownBlock]using x
       omega⟩
     have HZ:uN w4 0 W.heap.size (.slice ya (k+1) yc) (List.replicate (k+1) (List.replicate ah aM)):=by rw[List.replicate_succ'];exact xD.nk k4 (Off.one QG (by decide) (by decide)) (by have:=HG.o;have:=Lm.o;omega)
     have Z7:Hid (uN w4 0 W.heap.size (.slice ya (k+1) yc) (List.replicate (k+1) (List.replicate ah aM))):=HZ;have Co:Hid _:=V3;have OX:Hid _:=C3.trans k4;clear own jR xD HZ gv kU QG V3 C3 k4 g3 b1 O1 RD hxx ch c0 c1 c2 hne;go_wp2_with fail;go_roundw
     case rel=>exact⟨k+1,by omega,by go_num,_,Co.o,Z7.o,OX.o⟩
     case measure=>simp[intOf];omega
    ·refine dI ?_;refine FL 16 (.tmp 15) rfl rfl xa ah xc rfl ?_;refine⟨trivial,?_⟩
     try simp only[ag,af]
     refine av 1 ?_;refine nE 13 (.tmp 12) rfl rfl ⟨g,0,none⟩ (.slice va k vc) rfl c2 ?_;refine⟨trivial,?_⟩
     try simp only[ag,af]
     refine av 5 ?_;refine Ci 17 (.tmp 13) (.tmp 16) rfl rfl 0 W.heap.size _ _ xa ah xc _ rfl jR RD rfl (by simp;omega) (iD ch.size b1.size) ?_;intro v3 w3 xD g3';have g3:World.grownBy w1 w3 (Value.slice va k vc).ownBlock:=g3';clear g3';refine⟨trivial,?_⟩
     try simp only[ag,af]
     have hne:some g≠(Value.slice va k vc).ownBlock:=by
      obtain⟨vs,ow,_⟩:=own;rcases ow.2 with⟨e,_⟩|⟨b,cap,cur,e,hb,_⟩
      ·rw[e];intro x;cases x
      ·rw[e];intro x;have e':g=b:=by simpa[Value.ownBlock]using x
       have:=HG.o;have:=Lm.o;omega
     have QG:=(g3.block g (fJ hgl b1.size) hne).trans kU;have Hz:=xD.rd (dx _);obtain⟨ya,yc,ey,hyc,_⟩:=Hz;have ey2:(List.replicate k (List.replicate ah aM)++[List.replicate ah aM]).length=k+1:=by simp
     rw[ey2]at ey;subst ey;refine aj 6 trivial ?_;simp only[ag,af];refine av 7 ?_;refine mh 85 JU (.tmp 18) (.tmp 17) rfl rfl g 0 (aT (.slice va k vc) aY) (aT (.slice ya (k+1) yc) aY) _ (by simp[aT]) rfl rfl rfl rfl rfl 87 QG ?_;intro w4 V3 k4;refine⟨trivial,?_⟩
     try simp only[ag,af]
     refine aC ?_
     have C3:Ch (· =g) W w3:=⟨g3.os.trans (b1.os.trans ch.os),g3.tape.trans (b1.tape.trans ch.tape),g3.output.trans (b1.output.trans ch.output),iD ch.size (iD b1.size g3.size),fun q hq hn=>by
      have h1:q<wr.heap.size:=fJ hq ch.size;refine((g3.block q (fJ h1 b1.size) ?_).trans (b1.block q h1)).trans (ch.block q hq hn);obtain⟨vs,ow,_⟩:=own;rcases ow.2 with⟨e,_⟩|⟨b,cap,cur,e,hb,_⟩
      ·rw[e];intro x;cases x
      ·rw[e];intro x;have e':q=b:=by simpa[Value.ownBlock]using x
       omega⟩
     have HZ:uN w4 0 W.heap.size (.slice ya (k+1) yc) (List.replicate (k+1) (List.replicate ah aM)):=by rw[List.replicate_succ'];exact xD.nk k4 (Off.one QG (by decide) (by decide)) (by have:=HG.o;have:=Lm.o;omega)
     have Z7:Hid (uN w4 0 W.heap.size (.slice ya (k+1) yc) (List.replicate (k+1) (List.replicate ah aM))):=HZ;have Co:Hid _:=V3;have OX:Hid _:=C3.trans k4;clear own jR xD HZ gv kU QG V3 C3 k4 g3 b1 O1 RD hxx ch c0 c1 c2 hne;go_wp2_with fail;go_roundw
     case rel=>exact⟨k+1,by omega,by go_num,_,Co.o,Z7.o,OX.o⟩
     case measure=>simp[intOf];omega
  ·have ik:¬(k:Int)<(rows:Int):=by omega
   obtain rfl:k=rows:=by omega
   have hw0:wr.heap[w.heap.size]? =some (.cells (aT (.slice none 0 0) aY).toArray 87 (0,0)):=(ch.block _ (by have:=Lm.o;omega) (by have:=HG.o;omega)).trans nK.o;have HGV:Hid _:=gv;have HHW:Hid _:=hw0;have HOW:Hid (uN wr 0 W.heap.size (.slice va k vc) (List.replicate k (List.replicate ah aM))):=own;have Ms:Hid _:=ch;clear gv hw0 own ch;go_wp2_with (first|(refine fC rfl 87 (.tmp 5) rfl g rfl 87 _ (0,0) _ HGV.o underlying87 rfl jP ?_)|(refine bK _ rfl 87 (.tmp 4) (.tmp 19) rfl w.heap.size (aT (.slice none 0 0) aY) (aT (.slice va k vc) aY) rfl _ rfl rfl 87 HHW.o rfl jP (j5 rfl _) ?_));intro u2 g2 k2 z2;go_wp2_with fail;have CU:Sm w u2:=(Cs.o.trans' Ms.o (fun k hk e=>by have:=HG.o;omega)).trans' k2 (fun k hk e=>by omega);refine bX (eX results93 _ _ w.heap.size (aT (.slice va k vc) aY) 87 (0,0) underlying87 jP rfl g2) rfl ⟨_,rfl,?_,CU.below (bN _) (fun _ _ h=>h)⟩;exact(HOW.o.rd (dx _)).nk k2 (Off.one HHW.o (by decide) (by decide))
theorem yI(v:Value)(S:cz)(p:di)(top bottom n:Int)(ah:Nat)(w:World)(hS:ShR w 0 v S)(hl:S.length≤100)(ht:0≤top)(hb:bottom<(S.length:Int))(hn: -100000≤n∧n≤100000)(hc:ah≤100):
 Calls prog 199 #[.agg (aT v p).toArray,.int .i64 top,.int .i64 bottom,.int .i64 n,.int .i64 (ah:Int)] w fun e w'=>∃v',e= .returned (.agg (aT v' p).toArray)∧ShR w' 0 v' (bI S top bottom n ah)∧Below w.heap.size w w':=by
 have HS:Hid (ShR w 0 v S):=hS;obtain⟨a,cap,rfl,hcap,_⟩:=hS;obtain⟨W,hW⟩:∃W,W=(w.alloc (.cells (aT (.slice a S.length cap) p).toArray 87)).alloc (.cells (aT (.slice none 0 0) aY).toArray 87):=⟨_,rfl⟩;have G0:W.heap[w.heap.size]? =some (.cells (aT (.slice a S.length cap) p).toArray 87 (0,0)):=by rw[hW];exact(gK _ _ _ (by simp)).trans (bV _ _)
 have G1:W.heap[w.heap.size+1]? =some (.cells (aT (.slice none 0 0) aY).toArray 87 (0,0)):=by
  have e:(w.alloc (.cells (aT (.slice a S.length cap) p).toArray 87)).heap.size=w.heap.size+1:=by simp
  rw[hW, ←e];exact bV _ _
 have SW:Sm w W:=by rw[hW];exact((Ch.refl _ _).alloc _).alloc _
 have Lm:Hid (W.heap.size=w.heap.size+2):=by show _=_;rw[hW];simp
 have HW:Hid _:=hW;have nK:Hid _:=G0;have nZ:Hid _:=G1;have Cs:Hid _:=SW;clear hW G0 G1 SW;go_enter func199,ntmps199;have h0:Below W.heap.size W ((w.alloc (.cells (aT (.slice a S.length cap) p).toArray 87)).alloc (.cells (aT (.slice none 0 0) aY).toArray 87)):=by rw[←HW.o];exact dU _ _
 have HH0:Hid _:=h0;clear h0;go_wp2_with fail;go_loopw [11,12] (fun v' i wr=>∃k:Nat,k≤S.length∧i= .int .i64 k∧uN wr 0 W.heap.size v' ((bI S top bottom n ah).take k)∧Below W.heap.size W wr) (fun _ i _=>S.length-(intOf i).toNat)
 case atStart=>exact⟨0,dx _,rfl,uN.nil _ _ _,HH0.o⟩
 case round=>
  clear HH0;obtain⟨k,hk,rfl,own,iB⟩:=hrel;have G0:=(iB.block _ (by have:=Lm.o;omega)).trans nK.o;have c0:wr.cell? ⟨w.heap.size,0,none⟩=some (.slice a S.length cap):=(bG _ _ _ _ _ _ G0).trans rfl;have f0:wr.frozen? ⟨w.heap.size,0,none⟩=false:=oh _ _ _ _ _ G0;have SR:Sm w wr:=Cs.o.trans (Ch.of_below iB);by_cases hlt:k<S.length
  ·have ik:(k:Int)<(S.length:Int):=by omega
   have vk:IntKind.i64.wrap ((k:Int)+1)=(k:Int)+1:=bD _ (by omega);have HO:Hid (uN wr 0 W.heap.size u11 ((bI S top bottom n ah).take k)):=own;have HB:Hid _:=iB;have mW:Hid (((bI S top bottom n ah).take k).length≤1000000):=by show _≤_;simp;omega
   have HK:Hid (∀q,(bI S top bottom n ah)[k]? =some q→(bI S top bottom n ah).take (k+1)=(bI S top bottom n ah).take k++[q]):=fun q hq=>by obtain⟨h1,h2⟩:=gJ.1 hq;rw[o7 h1,h2]
   have hel:(bI S top bottom n ah)[k]? =some (if(k:Int)<top∨bottom<(k:Int)then S.getD k []else if(k:Int)+n<top∨bottom<(k:Int)+n then List.replicate ah aM else S.getD ((k:Int)+n).toNat []):=by
    have:=nW S top bottom n ah k hlt;have h2:k<(bI S top bottom n ah).length:=by rw[fZ];exact hlt
    rw[←this];simp[List.getD,eG h2]
   by_cases hA:(k:Int)<top∨bottom<(k:Int)
   ·have vf:IntKind.i64.wrap ((k:Int)+n)=(k:Int)+n:=bD _ (by omega);have d0:decide ((k:Int)<top)=true∨decide ((k:Int)<top)=false∧decide (bottom<(k:Int))=true:=by
     by_cases h1:(k:Int)<top
     ·left;simp[h1]
     ·right;simp[h1];omega
    rcases d0 with d0|⟨d0,d1⟩
    ·have h1:(k:Int)<top:=pV d0;obtain⟨q,hq⟩:∃q,S[k]? =some q:=⟨_,eG (by omega)⟩
     have Mx:Hid ((bI S top bottom n ah).take (k+1)=(bI S top bottom n ah).take k++[q]):=HK.o q (by
      rw[hel,ak hA]
      simp[List.getD,hq])
     obtain⟨a2,cp2,e2,_,h3⟩:=HS.o;obtain⟨b,o,vq,ea,hBb,hbl,hcell,RQ⟩:=h3 k q hq;cases e2;subst ea;have RR:=RQ.sm SR;have PT:=RR;obtain⟨qa,qc,rfl,hqc,_⟩:=PT;have HRR:Hid (dF wr 0 (.slice qa q.length qc) q):=RR;have cq:wr.cell? ⟨b,o+k,none⟩=some (.slice qa q.length qc):=(dA (SR.block b hbl id)).trans hcell;clear own iB hq RR SR G0 h3 RQ hel;go_wp2_with (first|(refine xQ wr rfl (.tmp 47) rfl qa q.length qc rfl ?_)|(refine um wr rfl (.tmp 41) (.tmp 47) rfl 0 W.heap.size _ _ qa q.length qc q rfl HO.o HRR.o rfl mW.o HB.o.size ?_));intro v' w' own' g';have b':=kH HB.o HB.o.size HO.o g';rw[←Mx.o]at own';go_wp2_with fail;go_roundw
     case rel=>exact⟨k+1,by omega,by go_num,own',b'⟩
     case measure=>simp[intOf];omega
    ·have h1:¬(k:Int)<top:=of_decide_eq_false d0;have h2:bottom<(k:Int):=pV d1;obtain⟨q,hq⟩:∃q,S[k]? =some q:=⟨_,eG (by omega)⟩
     have Mx:Hid ((bI S top bottom n ah).take (k+1)=(bI S top bottom n ah).take k++[q]):=HK.o q (by
      rw[hel,ak hA]
      simp[List.getD,hq])
     obtain⟨a2,cp2,e2,_,h3⟩:=HS.o;obtain⟨b,o,vq,ea,hBb,hbl,hcell,RQ⟩:=h3 k q hq;cases e2;subst ea;have RR:=RQ.sm SR;have PT:=RR;obtain⟨qa,qc,rfl,hqc,_⟩:=PT;have HRR:Hid (dF wr 0 (.slice qa q.length qc) q):=RR;have cq:wr.cell? ⟨b,o+k,none⟩=some (.slice qa q.length qc):=(dA (SR.block b hbl id)).trans hcell;clear own iB hq RR SR G0 h3 RQ hel;go_wp2_with (first|(refine xQ wr rfl (.tmp 47) rfl qa q.length qc rfl ?_)|(refine um wr rfl (.tmp 41) (.tmp 47) rfl 0 W.heap.size _ _ qa q.length qc q rfl HO.o HRR.o rfl mW.o HB.o.size ?_));intro v' w' own' g';have b':=kH HB.o HB.o.size HO.o g';rw[←Mx.o]at own';go_wp2_with fail;go_roundw
     case rel=>exact⟨k+1,by omega,by go_num,own',b'⟩
     case measure=>simp[intOf];omega
   ·have h1:¬(k:Int)<top:=fun h=>hA (.inl h);have h2:¬bottom<(k:Int):=fun h=>hA (.inr h);have d0:decide ((k:Int)<top)=false:=by simp;omega
    have d1:decide (bottom<(k:Int))=false:=by simp;omega
    by_cases hBq:(k:Int)+n<top∨bottom<(k:Int)+n
    ·have vf:IntKind.i64.wrap ((k:Int)+n)=(k:Int)+n:=bD _ (by omega);by_cases h3:(k:Int)+n<top
     ·have d2:decide ((k:Int)+n<top)=true:=by simp;omega
      have Mx:Hid ((bI S top bottom n ah).take (k+1)=(bI S top bottom n ah).take k++[List.replicate ah aM]):=HK.o _ (by rw[hel,ai hA,ak hBq]);have Z6:=HO.o;have HB0:=HB.o;clear own iB SR G0 hel;go_wp2_with fail;refine(iE ah wr (by omega)).mono ?_;rintro e z ⟨vz,rfl,Oz,bz⟩;have HO:Hid (uN z 0 W.heap.size u11 ((bI S top bottom n ah).take k)):=Z6.below bz;have HB:Hid (Below W.heap.size W z):=HB0.trans (bz.mono HB0.size);have RR:=Oz.rd.mono (dx _);have PT:=RR;obtain⟨qa,qc,ez,hqc,_⟩:=PT;rw[kJ]at ez;subst ez;have HRR:Hid (dF z 0 (.slice qa ah qc) (List.replicate ah aM)):=RR;clear RR Oz bz Z6 HB0;go_wp2_with (first|(refine xQ z rfl (.tmp 60) rfl qa ah qc rfl ?_)|(refine um z rfl (.tmp 58) (.tmp 61) rfl 0 W.heap.size _ _ qa ah qc (List.replicate ah aM) rfl HO.o HRR.o rfl mW.o HB.o.size ?_));intro v' w' own' g';have b':=kH HB.o HB.o.size HO.o g';rw[←Mx.o]at own';go_wp2_with fail;go_roundw
      case rel=>exact⟨k+1,by omega,by go_num,own',b'⟩
      case measure=>simp[intOf];omega
     ·have h4:bottom<(k:Int)+n:=by omega
      have d2:decide ((k:Int)+n<top)=false:=by simp;omega
      have d3:decide (bottom<(k:Int)+n)=true:=by simp;omega
      have Mx:Hid ((bI S top bottom n ah).take (k+1)=(bI S top bottom n ah).take k++[List.replicate ah aM]):=HK.o _ (by rw[hel,ai hA,ak hBq]);have Z6:=HO.o;have HB0:=HB.o;clear own iB SR G0 hel;go_wp2_with fail;refine(iE ah wr (by omega)).mono ?_;rintro e z ⟨vz,rfl,Oz,bz⟩;have HO:Hid (uN z 0 W.heap.size u11 ((bI S top bottom n ah).take k)):=Z6.below bz;have HB:Hid (Below W.heap.size W z):=HB0.trans (bz.mono HB0.size);have RR:=Oz.rd.mono (dx _);have PT:=RR;obtain⟨qa,qc,ez,hqc,_⟩:=PT;rw[kJ]at ez;subst ez;have HRR:Hid (dF z 0 (.slice qa ah qc) (List.replicate ah aM)):=RR;clear RR Oz bz Z6 HB0;go_wp2_with (first|(refine xQ z rfl (.tmp 60) rfl qa ah qc rfl ?_)|(refine um z rfl (.tmp 58) (.tmp 61) rfl 0 W.heap.size _ _ qa ah qc (List.replicate ah aM) rfl HO.o HRR.o rfl mW.o HB.o.size ?_));intro v' w' own' g';have b':=kH HB.o HB.o.size HO.o g';rw[←Mx.o]at own';go_wp2_with fail;go_roundw
      case rel=>exact⟨k+1,by omega,by go_num,own',b'⟩
      case measure=>simp[intOf];omega
    ·obtain⟨m,hm⟩:∃m:Nat,(k:Int)+n=(m:Int):=⟨((k:Int)+n).toNat,by omega⟩;have vf:IntKind.i64.wrap ((k:Int)+n)=(m:Int):=by rw[hm];exact bD _ (by omega)
     have h3:¬(m:Int)<top:=by omega
     have h4:¬bottom<(m:Int):=by omega
     have d2:decide ((m:Int)<top)=false:=by simp;omega
     have d3:decide (bottom<(m:Int))=false:=by simp;omega
     have im:(m:Int)<(S.length:Int):=by omega
     have ab1:((k:Int)+n).toNat=m:=by omega
     rw[ab1]at hel;have HM:Hid _:=hm;have HBQ:Hid _:=hBq;clear hm ab1 hBq;obtain⟨q,hq⟩:∃q,S[m]? =some q:=⟨_,eG (by omega)⟩
     have Mx:Hid ((bI S top bottom n ah).take (k+1)=(bI S top bottom n ah).take k++[q]):=HK.o q (by
      rw[hel,ai hA,ai HBQ.o]
      simp[List.getD,hq])
     obtain⟨a2,cp2,e2,_,h3⟩:=HS.o;obtain⟨b,o,vq,ea,hBb,hbl,hcell,RQ⟩:=h3 m q hq;cases e2;subst ea;have RR:=RQ.sm SR;have PT:=RR;obtain⟨qa,qc,rfl,hqc,_⟩:=PT;have HRR:Hid (dF wr 0 (.slice qa q.length qc) q):=RR;have cq:wr.cell? ⟨b,o+m,none⟩=some (.slice qa q.length qc):=(dA (SR.block b hbl id)).trans hcell;clear own iB hq RR SR G0 h3 RQ hel;go_wp2_with (first|(refine xQ wr rfl (.tmp 30) rfl qa q.length qc rfl ?_)|(refine um wr rfl (.tmp 24) (.tmp 30) rfl 0 W.heap.size _ _ qa q.length qc q rfl HO.o HRR.o rfl mW.o HB.o.size ?_));intro v' w' own' g';have b':=kH HB.o HB.o.size HO.o g';rw[←Mx.o]at own';go_wp2_with fail;go_roundw
     case rel=>exact⟨k+1,by omega,by go_num,own',b'⟩
     case measure=>simp[intOf];omega
  ·have ik:¬(k:Int)<(S.length:Int):=by omega
   obtain rfl:k=S.length:=by omega
   have hsl:(bI S top bottom n ah).length=S.length:=fZ _ _ _ _ _;have hfull:(bI S top bottom n ah).take S.length=bI S top bottom n ah:=l6 (by omega);rw[hfull]at own;have G1:=(iB.block _ (by have:=Lm.o;omega)).trans nZ.o;have GA:(wr.setCell ⟨w.heap.size,0,none⟩ u11).heap[w.heap.size]? =some (.cells (aT u11 p).toArray 87 (0,0)):=(rR wr w.heap.size 0 _ 87 u11 G0).trans rfl;have GB:(wr.setCell ⟨w.heap.size,0,none⟩ u11).heap[w.heap.size+1]? =some (.cells (aT (.slice none 0 0) aY).toArray 87 (0,0)):=(uI wr _ _ _ (by simp)).trans G1;have kM:=own.rd (dx _);have xD:=kM;obtain⟨a7,c7,e7,hc7,_⟩:=xD;rw[hsl]at e7;subst e7;have HO:Hid (ShR wr 0 (.slice a7 S.length c7) (bI S top bottom n ah)):=kM;have WJ:Hid _:=G0;have TZ:Hid _:=SR;have HGA:Hid _:=GA;have VK:Hid _:=GB;clear own kM GA GB G0 G1 SR hsl hfull;go_wp2_with (first|(refine fC rfl 87 (.tmp 5) rfl w.heap.size rfl 87 _ (0,0) _ HGA.o underlying87 rfl jP ?_)|(refine bK _ rfl 87 (.tmp 10) (.tmp 65) rfl (w.heap.size+1) (aT (.slice none 0 0) aY) (aT (.slice a7 S.length c7) p) rfl _ rfl rfl 87 VK.o rfl jP (j5 rfl p) ?_));intro u2 g2 k2 z2;go_wp2_with fail;have C1:Ch (· =w.heap.size) wr (wr.setCell ⟨w.heap.size,0,none⟩ (.slice a7 S.length c7)):=⟨rfl,rfl,rfl,by simp[World.setCell],fun k hk hn=>uI wr _ k _ (by simpa using hn)⟩;have SU:Sm w u2:=(TZ.o.trans' C1 (fun k hk e=>by omega)).trans' k2 (fun k hk e=>by omega);refine bX (eX results199 _ _ (w.heap.size+1) (aT (.slice a7 S.length c7) p) 87 (0,0) underlying87 jP rfl g2) rfl ⟨_,rfl,?_,SU.below (bN _) (fun _ _ h=>h)⟩;exact(HO.o.nk C1 (Off.one WJ.o (by decide) (by decide))).nk k2 (Off.one VK.o (by decide) (by decide))
end Go.Proofs.YtheibfffilomcaaGreatDoor
