import Derived.Test.YtheibfffilomcaaGreatDoorTmaU
import Derived.Test.YtheibfffilomcaaGreatDoorVm0U
import Derived.Test.YtheibfffilomcaaGreatDoorVuU
import Derived.Test.YtheibfffilomcaaGreatDoorVydU
import Derived.Test.YtheibfffilomcaaGreatDoorXiU
import Derived.Test.YtheibfffilomcaaGreatDoorVybU
import Derived.Test.YtheibfffilomcaaGreatDoorUbU
set_option linter.all false
set_option maxRecDepth 100000
set_option maxHeartbeats 1000000
namespace Go.Proofs.YtheibfffilomcaaGreatDoor
open Go.RowKit Go.Proofs.Tryz
variable {w:World} {k tb fb pb i:Nat} {d:DT} {L:Lay} {v0 v1:Value} {q:bY}
theorem cO.yz{s:TS}(h:cO w L s)(hI:s.Inv)(hk:L.own k):∃cur t fr,w.heap[k]? =some (.cells cur t fr)∧(t=164∨t=166∨t=4∨t=101):=by
 have row:∀{sb:Nat} {gs:List Nat} {S:bS},ShAt w sb gs s.ah S→k∈gs→∃cur t fr,w.heap[k]? =some (.cells cur t fr)∧(t=164∨t=166∨t=4∨t=101):=fun{sb gs S} hS hm=>by obtain⟨i,hi,rfl⟩:=List.getElem_of_mem hm;have:=hS.len;exact⟨_,_,_,(hS.row i gs[i] (S[i]'(by omega)) (eG hi) (eG (by omega))).1,.inr (.inr (.inr rfl))⟩
 rcases hk with rfl|rfl|rfl|rfl|hm|hm
 ·exact⟨_,_,_,h.blk,.inl rfl⟩
 ·exact⟨_,_,_,h.h0.blk,.inr (.inl rfl)⟩
 ·exact⟨_,_,_,h.h1.blk,.inr (.inl rfl)⟩
 ·exact⟨_,_,_,h.tab,.inr (.inr (.inl rfl))⟩
 ·exact row h.h0 hm
 ·exact row h.h1 hm
theorem Bg{cur:Array Value}{t:TypeId}{fr:Nat × Nat}(h:w.heap[k]? =some (.cells cur t fr))(j:Nat):w.cell? ⟨k,j,none⟩=cur[j]? :=bG _ _ _ _ _ _ h
theorem bR.acm{w':World}{fed:ByteArray}{done:Nat}{x:akA}(h:bR w tb v0 v1 fed done d)(hf:Cm w fb L x)(hI:x.t.Inv)(c:Ch (fun k=>k=fb∨L.own k) w w'):bR w' tb v0 v1 fed done d:=by
 have hr:∀{B:Nat} {v:Value} {r:bY},dF w B v r→dF w' B v r:=fun{B v r} hR=>by
  obtain⟨a,cap,h1,h2,h3⟩:=hR;refine⟨a,cap,h1,h2,fun j y hj=>?_⟩;obtain⟨b,o,e,⟨hB1,cur,fr,mF,xb,hx⟩,hlt,hr⟩:=h3 j y hj
  have hk:=c.block b hlt (by
   rintro(rfl|ho)
   ·have:=hf.rd.c1;rw[Bg mF]at this;rw[show(0+1:Nat)=1 from rfl,hx]at this;cases this
   ·obtain⟨cur',t,fr',hc',ht⟩:=hf.te.yz hI ho;rw[mF]at hc';cases hc'
    revert ht;decide)
  exact⟨b,o,e,⟨hB1,cur,fr,hk.trans mF,xb,hx⟩,fJ hlt c.size,fun i v hv=>(dA hk).trans (hr i v hv)⟩
 have hs:∀{B:Nat} {v:Value} {S:cz},ShR w B v S→ShR w' B v S:=fun{B v S} hR=>by
  obtain⟨a,cap,h1,h2,h3⟩:=hR;refine⟨a,cap,h1,h2,fun i r hi=>?_⟩;obtain⟨b,o,vr,e,⟨hB1,cur,fr,mF,xa,xn,xc,hx⟩,hlt,hc,hrr⟩:=h3 i r hi
  have hk:=c.block b hlt (by
   rintro(rfl|ho)
   ·have:=hf.rd.c0;rw[Bg mF,hx]at this;cases this
   ·obtain⟨cur',t,fr',hc',ht⟩:=hf.te.yz hI ho;rw[mF]at hc';cases hc'
    revert ht;decide)
  exact⟨b,o,vr,e,⟨hB1,cur,fr,hk.trans mF,xa,xn,xc,hx⟩,fJ hlt c.size,(dA hk).trans hc,hr hrr⟩
 refine⟨(c.block tb h.lt ?_).trans h.blk,hs h.h0,hs h.h1⟩;rintro(rfl|ho)
 ·have:=hf.rd.c2;rw[show(0+2:Nat)=2 from rfl,h.LJ]at this;cases this
 ·obtain⟨cur',t,fr',hc',ht⟩:=hf.te.yz hI ho;rw[h.blk]at hc';cases hc'
  revert ht;decide
theorem Ql:OU:=fun tb v0 v1 fed done d ev w h1 h2 h3 h4=>MZ tb v0 v1 fed done d ev w h1 h2 h3 h4
theorem MP(a b:Int)(w:World)(h:¬(1≤a∧a≤12∧1≤b∧b≤40)):Calls prog 9 #[.int .i64 a,.int .i64 b] w fun e w'=>e= .returned (.tuple #[.pointer none,.bool true])∧w'=w:=by
 have l1:=Vd a b w h;have l2:=Qj a b w h;have l3:=Ma 1 w;clear h;go_enter func9,ntmps9;go_wp2_with (first|(go_at_call 22;refine l1.mono ?_;rintro e w1 ⟨rfl,hw1⟩;have hw2:=hw1.symm;subst hw2)|(go_at_call 23;refine l2.mono ?_;rintro e w2 ⟨rfl,hw3⟩;have hw4:=hw3.symm;subst hw4)|(go_at_call 24;refine l3.mono ?_;rintro e w3 ⟨rfl,hw5⟩;have hw6:=hw5.symm;subst hw6))
 first|go_ret2|go_ret
 exact⟨rfl,rfl⟩
structure VT (w:World) (pb fb tb:Nat):Prop where
 blk:w.heap[pb]? =some (.cells #[.pointer (some ⟨fb,0,none⟩),.pointer (some ⟨tb,0,none⟩)] 31 (0,0))
theorem VT.c0(h:VT w pb fb tb):w.cell? ⟨pb,0,none⟩=some (.pointer (some ⟨fb,0,none⟩)):=(bG _ _ _ _ _ _ h.blk).trans rfl
theorem VT.c1(h:VT w pb fb tb):w.cell? ⟨pb,1,none⟩=some (.pointer (some ⟨tb,0,none⟩)):=(bG _ _ _ _ _ _ h.blk).trans rfl
theorem P8(r c:Nat)(w:World)(hr:1≤r∧r≤12)(hc:1≤c∧c≤40)(hs:2<w.heap.size):Calls prog 9 #[.int .i64 (r:Int),.int .i64 (c:Int)] w fun e w'=>∃pb fb tb L v0 v1,e= .returned (.tuple #[.pointer (some ⟨pb,0,none⟩),.bool true])∧VT w' pb fb tb∧Cm w' fb L (akA.fresh r c)∧bR w' tb v0 v1 ByteArray.empty 0 (DT.fresh r c 0)∧w.heap.size≤pb∧w.heap.size≤fb∧w.heap.size≤tb∧(∀k,L.own k→w.heap.size≤k)∧(∀k,L.own k→k<pb)∧fb<pb∧tb<pb∧Below w.heap.size w w':=by
 have l1:=Vb r c w hr hc hs;go_enter func9,ntmps9;go_wp2_with fail;refine l1.mono ?_;rintro e w1 ⟨fb,L,rfl,f1,hfb,hown,b1⟩;have Cn:Hid _:=f1;have HB1:Hid _:=b1;have HOWN:Hid _:=hown;clear l1 f1 b1 hown;go_wp2_with fail;refine(UB r c _ hr hc).mono ?_;rintro e w2 ⟨tb,v0,v1,rfl,t2,htb,wI⟩;have HT2:Hid _:=t2;have HS2:Hid (Sm w1 w2):=wI;have Cx:Hid (Cm w2 fb L (akA.fresh r c)):=Cn.o.kept wI id (fun _ _=>id);clear t2 wI;go_wp2_with fail;refine(Ma 0 _).mono ?_;rintro e w3 ⟨rfl,hw3⟩;have afa:=hw3.symm;subst afa;clear hw3;go_wp2_with fail
 first|go_ret2|go_ret
 have hlt:=HT2.o.lt;have hsz:=HS2.o.size;have hsz1:=HB1.o.size;have hfl:=Cx.o.lt;have smA:Sm w2 (w2.alloc (.cells #[.pointer (some ⟨fb,0,none⟩),.pointer (some ⟨tb,0,none⟩)] 31)):=(Ch.refl _ _).alloc _;refine⟨w2.heap.size,fb,tb,L,v0,v1,rfl,⟨bV _ _⟩,Cx.o.kept smA id (fun _ _=>id),HT2.o.sm smA,by omega,hfb,by omega,HOWN.o,fun k hk=>Cx.o.te.pQ hk,hfl,hlt,?_⟩;exact HB1.o.trans ((HS2.o.trans smA).below (by omega) (fun _ _ h=>h))
theorem OT.fresh{r c:Nat}(h:bR w tb v0 v1 ByteArray.empty 0 (DT.fresh r c 0)):OT w tb ByteArray.empty r c:=⟨v0,v1,h⟩
theorem XP{c:DC}(h:d.d0[i]? =some q)(hk:q[k]? =some c):d.abs.cellAt 0 i k=c.1:=by show((dM d.d0).getD i []).getD k aD=c.1;rw[gV];simp[List.getD,h,strip,hk]
theorem XT{c:DC}(h:d.d1[i]? =some q)(hk:q[k]? =some c):d.abs.cellAt 1 i k=c.1:=by show((dM d.d1).getD i []).getD k aD=c.1;rw[gV];simp[List.getD,h,strip,hk]
theorem BO{b o:Nat}{c:DC}(h:w.rangeAt b o (tF c)):w.rangeAt b o (cellV c.1):=fun i v hv=>h i v (by
 have hi:=(gJ.1 hv).1;unfold tF
 rw[qA hi];exact hv)
theorem abL(tb:Nat)(v0 v1:Value)(fed:ByteArray)(done:Nat)(d:DT)(w:World)(ht:bR w tb v0 v1 fed done d):Calls prog 84 #[.pointer (some ⟨tb,0,none⟩),.int .i64 0] w fun e w'=>e= .returned (.tuple #[.agg (aB d.t.v0).toArray,.int .i64 0])∧Sm w w':=by have HR:Hid (w.rangeAt tb 22 (aB d.t.v0)):=ht.range 22 _ rfl;have htl:=ht.lt;clear ht;go_enter func84,ntmps84;go_wp2_with (first|(refine nN rfl 82 (.tmp 18) rfl tb 22 rfl (aB d.t.v0) _ (World.rangeAt_alloc HR.o _) underlying82 rfl bH ?_)|(refine bK _ rfl 82 (.tmp 4) (.tmp 19) rfl w.heap.size [.int .i64 0,.int .i64 0,.bool false,.bool false,.bool false,.bool false,.int .i64 0,.int .i64 0,.int .i64 0,.int .i64 0,.int .i64 0,.bool false] (aB d.t.v0) rfl _ rfl rfl 82 (bV _ _) rfl bH (iM _) ?_));intro u2 g2 k2 z2;go_wp2_with fail;exact bX (bf results84 _ _ w.heap.size (aB d.t.v0) 82 (0,0) underlying82 bH rfl g2) rfl ⟨rfl,((Ch.refl _ _).alloc _).trans' k2 (fun k hk e=>by omega)⟩
theorem abM(tb:Nat)(v0 v1:Value)(fed:ByteArray)(done:Nat)(d:DT)(w:World)(ht:bR w tb v0 v1 fed done d):Calls prog 84 #[.pointer (some ⟨tb,0,none⟩),.int .i64 1] w fun e w'=>e= .returned (.tuple #[.agg (aB d.t.v1).toArray,.int .i64 0])∧Sm w w':=by have HR:Hid (w.rangeAt tb 35 (aB d.t.v1)):=ht.range 35 _ rfl;have htl:=ht.lt;clear ht;go_enter func84,ntmps84;go_wp2_with (first|(refine nN rfl 82 (.tmp 18) rfl tb 35 rfl (aB d.t.v1) _ (World.rangeAt_alloc HR.o _) underlying82 rfl bH ?_)|(refine bK _ rfl 82 (.tmp 4) (.tmp 19) rfl w.heap.size [.int .i64 0,.int .i64 0,.bool false,.bool false,.bool false,.bool false,.int .i64 0,.int .i64 0,.int .i64 0,.int .i64 0,.int .i64 0,.bool false] (aB d.t.v1) rfl _ rfl rfl 82 (bV _ _) rfl bH (iM _) ?_));intro u2 g2 k2 z2;go_wp2_with fail;exact bX (bf results84 _ _ w.heap.size (aB d.t.v1) 82 (0,0) underlying82 bH rfl g2) rfl ⟨rfl,((Ch.refl _ _).alloc _).trans' k2 (fun k hk e=>by omega)⟩
theorem SF(tb:Nat)(v0 v1:Value)(fed:ByteArray)(done:Nat)(d:DT)(n:Int)(h0:n≠0)(h1:n≠1)(w:World)(ht:bR w tb v0 v1 fed done d):Calls prog 84 #[.pointer (some ⟨tb,0,none⟩),.int .i64 n] w fun e w'=>e= .returned (.tuple #[.agg (aB aY).toArray,.int .i64 2])∧Sm w w':=by
 have b0:(n==0)=false:=by simp[h0]
 have b1:(n==1)=false:=by simp[h1]
 have b0':(n != 0)=true:=by simp[h0]
 have b1':(n != 1)=true:=by simp[h1]
 clear ht;go_enter func84,ntmps84;go_wp2_with (refine bK _ rfl 82 (.tmp 4) (.tmp 12) rfl w.heap.size [.int .i64 0,.int .i64 0,.bool false,.bool false,.bool false,.bool false,.int .i64 0,.int .i64 0,.int .i64 0,.int .i64 0,.int .i64 0,.bool false] (aB aY) rfl _ rfl rfl 82 (bV _ _) rfl bH (iM _) ?_);intro u2 g2 k2 z2;go_wp2_with fail;exact bX (bf results84 _ _ w.heap.size (aB aY) 82 (0,0) underlying82 bH rfl g2) rfl ⟨rfl,((Ch.refl _ _).alloc _).trans' k2 (fun k hk e=>by omega)⟩
theorem abN(tb:Nat)(v0 v1:Value)(fed:ByteArray)(done:Nat)(d:DT)(k:Nat)(hk:k<d.t.ah)(hc:d.t.ah≤40)(htl:d.tb.length=40)(w:World)(ht:bR w tb v0 v1 fed done d):Calls prog 85 #[.pointer (some ⟨tb,0,none⟩),.int .i64 (k:Int)] w fun e w'=>e= .returned (.tuple #[.bool (d.abs.tabs.getD k false),.int .i64 0])∧w'=w:=by
 have hb:d.abs.tabs.getD k false=d.tb.getD k false:=by show(d.tb.take d.t.ah).getD k false=_;simp[List.getD,mJ,hk]
 rw[hb];have c1:=ht.gX;have ct:w.cell? ⟨tb,47+k,none⟩=some (.bool (d.tb.getD k false)):=by
  refine ht.c (47+k) _ ?_;have hl:k<d.tb.length:=by omega
  show(_++(xM d.t++(aT v0 d.t.v0++(aT v1 d.t.v1++(d.tb.map Value.bool++[.int .i64 d.ids])))))[47+k]? =_;rw[←f_, ←f_, ←f_,og (by simp[xM,aB,aT])];rw[show 47+k-_=k by simp[xM,aB,aT],qA (by simp;omega)];simp[List.getD,eG hl]
 generalize d.tb.getD k false=b at*;have i0:(0:Int)≤(k:Int):=by omega
 have ik:(k:Int)<(d.t.ah:Int):=by omega
 have i40:(k:Int)<40:=by omega
 have ah6:k<40:=by omega
 have n0:decide ((k:Int)<0)=false:=by simp
 have n1:decide ((d.t.ah:Int)≤(k:Int))=false:=by simp;omega
 clear ht;go_enter func85,ntmps85;go_wp2_with fail;go_ret2;exact⟨rfl,rfl⟩
theorem aap(tb:Nat)(v0 v1:Value)(fed:ByteArray)(done:Nat)(d:DT)(k:Int)(hk:¬(0≤k∧k<(d.t.ah:Int)))(w:World)(ht:bR w tb v0 v1 fed done d):Calls prog 85 #[.pointer (some ⟨tb,0,none⟩),.int .i64 k] w fun e w'=>e= .returned (.tuple #[.bool false,.int .i64 2])∧w'=w:=by
 have c1:=ht.gX;clear ht;by_cases h0:k<0
 ·go_enter func85,ntmps85;go_wp2_with fail;go_ret2;exact⟨rfl,rfl⟩
 ·have n0:decide (k<0)=false:=by simp;omega
  have i1:(d.t.ah:Int)≤k:=by omega
  go_enter func85,ntmps85;go_wp2_with fail;go_ret2;exact⟨rfl,rfl⟩
theorem acE(tb:Nat)(v0 v1:Value)(fed:ByteArray)(done:Nat)(d:DT)(i k:Nat)(w:World)(ht:bR w tb v0 v1 fed done d)(hok:d.Ok)(hi:i<d.t.rows)(hk:k<d.t.ah):Calls prog 83 #[.pointer (some ⟨tb,0,none⟩),.int .i64 0,.int .i64 (i:Int),.int .i64 (k:Int)] w fun e w'=>e= .returned (.tuple #[.agg (dw (d.abs.cellAt 0 i k)),.int .i64 0])∧Sm w w':=by
 have lS:d.d0.length=d.t.rows:=by have:=hok.inv.l0;have e:d.abs.s0=dM d.d0:=rfl;rw[e,bF]at this;exact this
 have c0:=ht.qH;have c1:=ht.gX;have htlt:=ht.lt;have HS:=ht.h0;obtain⟨a,cap,rfl,hcap,h3⟩:=HS;obtain⟨q,hq⟩:∃q,d.d0[i]? =some q:=⟨_,eG (by omega)⟩;have Yw:q.length=d.t.ah:=by have:=(hok.r0.getD (i:=i) (by omega)).2;simpa[List.getD,hq]using this
 obtain⟨b,ob,vr,rfl,hB,hbl,hcell,RR⟩:=h3 i q hq;obtain⟨ar,Ez,rfl,abV,h4⟩:=RR;obtain⟨c,hc⟩:∃c,q[k]? =some c:=⟨_,eG (by omega)⟩;obtain⟨br,FV,rfl,hBr,Ni,hrg⟩:=h4 k c hc;rw[XP hq hc];have uF:Hid (w.rangeAt br (FV+k*8) (cellV c.1)):=BO hrg;have cS:w.cell? ⟨tb,21,none⟩=some (.slice (some ⟨b,ob,none⟩) d.d0.length cap):=ht.c 21 _ rfl;have ii:(i:Int)<(d.d0.length:Int):=by omega
 have ik:(k:Int)<(q.length:Int):=by omega
 have n1:decide ((i:Int)<0)=false:=by simp
 have n2:decide ((d.t.rows:Int)≤(i:Int))=false:=by simp;omega
 have n3:decide ((k:Int)<0)=false:=by simp
 have n4:decide ((d.t.ah:Int)≤(k:Int))=false:=by simp;omega
 clear ht hok h3 h4 hq hc hrg;go_enter func83,ntmps83;go_wp2_with (first|(refine nN rfl 101 (.tmp 53) rfl br (FV+k*8) rfl (cellV c.1) _ (World.rangeAt_alloc uF.o _) underlying101 rfl g_ ?_)|(refine bK _ rfl 101 (.tmp 8) (.tmp 54) rfl w.heap.size (cellV nG) (cellV c.1) rfl _ rfl rfl 101 (bV _ _) rfl g_ (jW _) ?_));intro u2 g2 k2 z2;go_wp2_with fail;exact bX (bf results83 _ _ w.heap.size (cellV c.1) 101 (0,0) underlying101 g_ rfl g2) rfl ⟨rfl,((Ch.refl _ _).alloc _).trans' k2 (fun k hk e=>by omega)⟩
theorem acF(tb:Nat)(v0 v1:Value)(fed:ByteArray)(done:Nat)(d:DT)(i k:Nat)(w:World)(ht:bR w tb v0 v1 fed done d)(hok:d.Ok)(hi:i<d.t.rows)(hk:k<d.t.ah):Calls prog 83 #[.pointer (some ⟨tb,0,none⟩),.int .i64 1,.int .i64 (i:Int),.int .i64 (k:Int)] w fun e w'=>e= .returned (.tuple #[.agg (dw (d.abs.cellAt 1 i k)),.int .i64 0])∧Sm w w':=by
 have lS:d.d1.length=d.t.rows:=by have:=hok.inv.l1;have e:d.abs.s1=dM d.d1:=rfl;rw[e,bF]at this;exact this
 have c0:=ht.qH;have c1:=ht.gX;have htlt:=ht.lt;have HS:=ht.h1;obtain⟨a,cap,rfl,hcap,h3⟩:=HS;obtain⟨q,hq⟩:∃q,d.d1[i]? =some q:=⟨_,eG (by omega)⟩;have Yw:q.length=d.t.ah:=by have:=(hok.r1.getD (i:=i) (by omega)).2;simpa[List.getD,hq]using this
 obtain⟨b,ob,vr,rfl,hB,hbl,hcell,RR⟩:=h3 i q hq;obtain⟨ar,Ez,rfl,abV,h4⟩:=RR;obtain⟨c,hc⟩:∃c,q[k]? =some c:=⟨_,eG (by omega)⟩;obtain⟨br,FV,rfl,hBr,Ni,hrg⟩:=h4 k c hc;rw[XT hq hc];have uF:Hid (w.rangeAt br (FV+k*8) (cellV c.1)):=BO hrg;have cS:w.cell? ⟨tb,34,none⟩=some (.slice (some ⟨b,ob,none⟩) d.d1.length cap):=ht.c 34 _ rfl;have ii:(i:Int)<(d.d1.length:Int):=by omega
 have ik:(k:Int)<(q.length:Int):=by omega
 have n1:decide ((i:Int)<0)=false:=by simp
 have n2:decide ((d.t.rows:Int)≤(i:Int))=false:=by simp;omega
 have n3:decide ((k:Int)<0)=false:=by simp
 have n4:decide ((d.t.ah:Int)≤(k:Int))=false:=by simp;omega
 clear ht hok h3 h4 hq hc hrg;go_enter func83,ntmps83;go_wp2_with (first|(refine nN rfl 101 (.tmp 53) rfl br (FV+k*8) rfl (cellV c.1) _ (World.rangeAt_alloc uF.o _) underlying101 rfl g_ ?_)|(refine bK _ rfl 101 (.tmp 8) (.tmp 54) rfl w.heap.size (cellV nG) (cellV c.1) rfl _ rfl rfl 101 (bV _ _) rfl g_ (jW _) ?_));intro u2 g2 k2 z2;go_wp2_with fail;exact bX (bf results83 _ _ w.heap.size (cellV c.1) 101 (0,0) underlying101 g_ rfl g2) rfl ⟨rfl,((Ch.refl _ _).alloc _).trans' k2 (fun k hk e=>by omega)⟩
theorem aaW(tb:Nat)(v0 v1:Value)(fed:ByteArray)(done:Nat)(d:DT)(n i k:Int)(h:n<0)(w:World)(ht:bR w tb v0 v1 fed done d):Calls prog 83 #[.pointer (some ⟨tb,0,none⟩),.int .i64 n,.int .i64 i,.int .i64 k] w fun e w'=>e= .returned (.tuple #[.agg (dw nG),.int .i64 2])∧Sm w w':=by have c0:=ht.qH;have c1:=ht.gX;have htlt:=ht.lt;clear ht;go_enter func83,ntmps83;go_wp2_with (refine bK _ rfl 101 (.tmp 8) (.tmp 40) rfl w.heap.size (cellV nG) (cellV nG) rfl _ rfl rfl 101 (bV _ _) rfl g_ (jW _) ?_);intro u2 g2 k2 z2;go_wp2_with fail;exact bX (bf results83 _ _ w.heap.size (cellV nG) 101 (0,0) underlying101 g_ rfl g2) rfl ⟨rfl,((Ch.refl _ _).alloc _).trans' k2 (fun k hk e=>by omega)⟩
theorem aaY(tb:Nat)(v0 v1:Value)(fed:ByteArray)(done:Nat)(d:DT)(n i k:Int)(h:1<n)(w:World)(ht:bR w tb v0 v1 fed done d):Calls prog 83 #[.pointer (some ⟨tb,0,none⟩),.int .i64 n,.int .i64 i,.int .i64 k] w fun e w'=>e= .returned (.tuple #[.agg (dw nG),.int .i64 2])∧Sm w w':=by
 have c0:=ht.qH;have c1:=ht.gX;have htlt:=ht.lt;clear ht;have n0:decide (n<0)=false:=by simp;omega
 go_enter func83,ntmps83;go_wp2_with (refine bK _ rfl 101 (.tmp 8) (.tmp 40) rfl w.heap.size (cellV nG) (cellV nG) rfl _ rfl rfl 101 (bV _ _) rfl g_ (jW _) ?_);intro u2 g2 k2 z2;go_wp2_with fail;exact bX (bf results83 _ _ w.heap.size (cellV nG) 101 (0,0) underlying101 g_ rfl g2) rfl ⟨rfl,((Ch.refl _ _).alloc _).trans' k2 (fun k hk e=>by omega)⟩
theorem aa4(tb:Nat)(v0 v1:Value)(fed:ByteArray)(done:Nat)(d:DT)(n i k:Int)(hn:0≤n∧n≤1)(h:i<0)(w:World)(ht:bR w tb v0 v1 fed done d):Calls prog 83 #[.pointer (some ⟨tb,0,none⟩),.int .i64 n,.int .i64 i,.int .i64 k] w fun e w'=>e= .returned (.tuple #[.agg (dw nG),.int .i64 2])∧Sm w w':=by
 have c0:=ht.qH;have c1:=ht.gX;have htlt:=ht.lt;clear ht;have n0:decide (n<0)=false:=by simp;omega
 have n1:decide (1<n)=false:=by simp;omega
 go_enter func83,ntmps83;go_wp2_with (refine bK _ rfl 101 (.tmp 8) (.tmp 40) rfl w.heap.size (cellV nG) (cellV nG) rfl _ rfl rfl 101 (bV _ _) rfl g_ (jW _) ?_);intro u2 g2 k2 z2;go_wp2_with fail;exact bX (bf results83 _ _ w.heap.size (cellV nG) 101 (0,0) underlying101 g_ rfl g2) rfl ⟨rfl,((Ch.refl _ _).alloc _).trans' k2 (fun k hk e=>by omega)⟩
theorem aa6(tb:Nat)(v0 v1:Value)(fed:ByteArray)(done:Nat)(d:DT)(n i k:Int)(hn:0≤n∧n≤1)(hi:0≤i)(h:(d.t.rows:Int)≤i)(w:World)(ht:bR w tb v0 v1 fed done d):Calls prog 83 #[.pointer (some ⟨tb,0,none⟩),.int .i64 n,.int .i64 i,.int .i64 k] w fun e w'=>e= .returned (.tuple #[.agg (dw nG),.int .i64 2])∧Sm w w':=by
 have c0:=ht.qH;have c1:=ht.gX;have htlt:=ht.lt;clear ht;have n0:decide (n<0)=false:=by simp;omega
 have n1:decide (1<n)=false:=by simp;omega
 have n2:decide (i<0)=false:=by simp;omega
 go_enter func83,ntmps83;go_wp2_with (refine bK _ rfl 101 (.tmp 8) (.tmp 40) rfl w.heap.size (cellV nG) (cellV nG) rfl _ rfl rfl 101 (bV _ _) rfl g_ (jW _) ?_);intro u2 g2 k2 z2;go_wp2_with fail;exact bX (bf results83 _ _ w.heap.size (cellV nG) 101 (0,0) underlying101 g_ rfl g2) rfl ⟨rfl,((Ch.refl _ _).alloc _).trans' k2 (fun k hk e=>by omega)⟩
theorem abJ(tb:Nat)(v0 v1:Value)(fed:ByteArray)(done:Nat)(d:DT)(n i k:Int)(hn:0≤n∧n≤1)(hi:0≤i)(hi2:i<(d.t.rows:Int))(h:k<0)(w:World)(ht:bR w tb v0 v1 fed done d):Calls prog 83 #[.pointer (some ⟨tb,0,none⟩),.int .i64 n,.int .i64 i,.int .i64 k] w fun e w'=>e= .returned (.tuple #[.agg (dw nG),.int .i64 2])∧Sm w w':=by
 have c0:=ht.qH;have c1:=ht.gX;have htlt:=ht.lt;clear ht;have n0:decide (n<0)=false:=by simp;omega
 have n1:decide (1<n)=false:=by simp;omega
 have n2:decide (i<0)=false:=by simp;omega
 have n3:decide ((d.t.rows:Int)≤i)=false:=by simp;omega
 go_enter func83,ntmps83;go_wp2_with (refine bK _ rfl 101 (.tmp 8) (.tmp 40) rfl w.heap.size (cellV nG) (cellV nG) rfl _ rfl rfl 101 (bV _ _) rfl g_ (jW _) ?_);intro u2 g2 k2 z2;go_wp2_with fail;exact bX (bf results83 _ _ w.heap.size (cellV nG) 101 (0,0) underlying101 g_ rfl g2) rfl ⟨rfl,((Ch.refl _ _).alloc _).trans' k2 (fun k hk e=>by omega)⟩
theorem abK(tb:Nat)(v0 v1:Value)(fed:ByteArray)(done:Nat)(d:DT)(n i k:Int)(hn:0≤n∧n≤1)(hi:0≤i)(hi2:i<(d.t.rows:Int))(hk:0≤k)(h:(d.t.ah:Int)≤k)(w:World)(ht:bR w tb v0 v1 fed done d):Calls prog 83 #[.pointer (some ⟨tb,0,none⟩),.int .i64 n,.int .i64 i,.int .i64 k] w fun e w'=>e= .returned (.tuple #[.agg (dw nG),.int .i64 2])∧Sm w w':=by
 have c0:=ht.qH;have c1:=ht.gX;have htlt:=ht.lt;clear ht;have n0:decide (n<0)=false:=by simp;omega
 have n1:decide (1<n)=false:=by simp;omega
 have n2:decide (i<0)=false:=by simp;omega
 have n3:decide ((d.t.rows:Int)≤i)=false:=by simp;omega
 have n4:decide (k<0)=false:=by simp;omega
 go_enter func83,ntmps83;go_wp2_with (refine bK _ rfl 101 (.tmp 8) (.tmp 40) rfl w.heap.size (cellV nG) (cellV nG) rfl _ rfl rfl 101 (bV _ _) rfl g_ (jW _) ?_);intro u2 g2 k2 z2;go_wp2_with fail;exact bX (bf results83 _ _ w.heap.size (cellV nG) 101 (0,0) underlying101 g_ rfl g2) rfl ⟨rfl,((Ch.refl _ _).alloc _).trans' k2 (fun k hk e=>by omega)⟩
theorem aab(tb:Nat)(v0 v1:Value)(fed:ByteArray)(done:Nat)(d:DT)(n i k:Int)(hn:¬((0≤n∧n<2)∧(0≤i∧i<(d.t.rows:Int))∧(0≤k∧k<(d.t.ah:Int))))(w:World)(ht:bR w tb v0 v1 fed done d):Calls prog 83 #[.pointer (some ⟨tb,0,none⟩),.int .i64 n,.int .i64 i,.int .i64 k] w fun e w'=>e= .returned (.tuple #[.agg (dw nG),.int .i64 2])∧Sm w w':=by
 by_cases h1:n<0
 ·exact aaW tb v0 v1 fed done d n i k h1 w ht
 by_cases h2:1<n
 ·exact aaY tb v0 v1 fed done d n i k h2 w ht
 by_cases h3:i<0
 ·exact aa4 tb v0 v1 fed done d n i k (by omega) h3 w ht
 by_cases h4:(d.t.rows:Int)≤i
 ·exact aa6 tb v0 v1 fed done d n i k (by omega) (by omega) h4 w ht
 by_cases h5:k<0
 ·exact abJ tb v0 v1 fed done d n i k (by omega) (by omega) (by omega) h5 w ht
 ·exact abK tb v0 v1 fed done d n i k (by omega) (by omega) (by omega) (by omega) (by omega) w ht
end Go.Proofs.YtheibfffilomcaaGreatDoor
