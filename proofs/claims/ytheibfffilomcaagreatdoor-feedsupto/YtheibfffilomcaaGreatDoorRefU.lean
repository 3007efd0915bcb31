import Derived.Test.YtheibfffilomcaaGreatDoorTmaU
import Derived.Test.YtheibfffilomcaaGreatDoorMweU
import Derived.Deep.QuietTactic
import Derived.BigQuiet
set_option linter.all false
set_option maxRecDepth 100000
set_option maxHeartbeats 1000000
namespace Go.Proofs.YtheibfffilomcaaGreatDoor
open Go.RowKit Go.Proofs.Tryz
variable {w w':World} {b m lo hi nx first:Int} {S:Nat→Prop} {base n bb p B j:Nat} {vi vm u:Value} {I:List Value} {M rest:List Int} {E:List (Value × Int)} {s:RS}
theorem FH(mb mo:Nat)(s:MS)(c:Int)(w:World)(h:kS w mb mo s)(hs:s.ok)(hc0:32≤c)(hc1:c≤10000000):
 Calls prog 54 #[.pointer (some ⟨mb,mo,none⟩),.int .i64 c] w fun e w'=>e= .returned (.tuple #[.agg (aA (s.dm c).2.1),.bool (s.dm c).2.2])∧kS w' mb mo (s.dm c).1∧Km mb mo w w':=by
 have hlt:=h.lt;have k0:∀o,Km mb mo w (w.alloc o):=fun o=>(Km.refl mb mo w).alloc o hlt;have c0:=h.c0;have gq:=vC hs.len c;rcases(show s.md=0∨s.md=1∨s.md=2∨s.md=3∨s.md=4∨s.md=5 by have:=hs.m0;have:=hs.m5;omega)with hm|hm|hm|hm|hm|hm
 ·have e:s.dm c=(s,[1,c,0,0,0]++z16,true):=by simp[MS.dm,hm]
  have b0:(s.md==0)=true:=by simp[hm]
  have b1:(s.md==1)=false:=by simp[hm]
  have b2:(s.md==2)=false:=by simp[hm]
  have b3:(s.md==3)=false:=by simp[hm]
  have b4:(s.md==4)=false:=by simp[hm]
  rw[e];clear e gq hm;go_enter func54,ntmps54;go_wp2_with (refine b_ _ rfl (.tmp 4) (.tmp 21) rfl w.heap.size aO ([1,c,0,0,0]++z16) rfl _ rfl rfl rfl 46 (bV w _) rfl ?_);intro v1 kU kI yV;have mv:=(h.alloc _).own kI (by omega);have kv:=(k0 _).own kI (bN _) hlt;go_wp2_with fail;exact jc results54 rfl w v1 mb mo _ _ _ rfl rfl rfl kU mv kv
 ·have e:s.dm c=s.eZ c:=by simp[MS.dm,hm]
  rw[e]at gq;have b0:(s.md==0)=false:=by simp[hm]
  have b1:(s.md==1)=true:=by simp[hm]
  have b2:(s.md==2)=false:=by simp[hm]
  have b3:(s.md==3)=false:=by simp[hm]
  have b4:(s.md==4)=false:=by simp[hm]
  rw[e];clear e hm;obtain⟨⟨S,EV,B⟩,hS⟩:∃x,s.eZ c=x:=⟨_,rfl⟩;have HS:Hid _:=hS;rw[hS]at gq;rw[hS];clear hS;dsimp only at gq ⊢;go_enter func54,ntmps54;go_wp2_with fail;refine(FE mb mo s c _ (h.alloc _) hc0).mono ?_;rw[HS.o];rintro e u1 ⟨rfl,m1,k1⟩;dsimp only at m1 ⊢;have yo:u1.heap[w.heap.size]? =some (.cells (aA aO) 46 (0,0)):=(k1.block _ (by simp) (by omega)).trans (bV _ _);go_wp2_with (refine b_ _ rfl (.tmp 4) (.tmp 25) rfl w.heap.size aO EV rfl _ rfl rfl gq 46 yo rfl ?_);intro v1 kU kI yV;have mv:=m1.own kI (by omega);have kv:=((k0 _).trans k1).own kI (bN _) hlt;go_wp2_with fail;exact jc results54 rfl w v1 mb mo _ _ _ gq rfl rfl kU mv kv
 ·have c1:=h.c1;have b0:(s.md==0)=false:=by simp[hm]
  have b1:(s.md==1)=false:=by simp[hm]
  have b2:(s.md==2)=true:=by simp[hm]
  have b3:(s.md==3)=false:=by simp[hm]
  have b4:(s.md==4)=false:=by simp[hm]
  cases hk:mU c with
  |true=>
   have e:s.dm c=(⟨3,c,s.ct,s.ps⟩,aO,false):=by simp[MS.dm,hm,hk]
   rw[e];have HK:Hid _:=hk;clear e gq hm hk;go_enter func54,ntmps54;go_wp2_with (refine yT _ rfl 69 RU (.tmp 29) _ rfl mb mo 0 (by omega) s ⟨3,s.mr,s.ct,s.ps⟩ 3 rfl rfl (h.alloc _) ((h.alloc _).acR 3) ?_);intro u1 m1 k1 z1;go_wp2_with fail;refine(Ho c true _ HK.o).mono ?_;rintro e w1 ⟨rfl,rfl⟩;go_wp2_with (refine yT _ rfl 3 Wm (.tmp 35) (.tmp 33) rfl mb mo 1 (by omega) ⟨3,s.mr,s.ct,s.ps⟩ ⟨3,c,s.ct,s.ps⟩ c rfl rfl m1 (m1.acT c) ?_);intro u2 m2 k2 z2;have k12:=k1.trans k2;have FT:u2.heap[w.heap.size]? =some (.cells (aA aO) 46 (0,0)):=(k12.block _ (by simp) (by omega)).trans (bV _ _);go_wp2_with (refine b_ _ rfl (.tmp 4) (.tmp 36) rfl w.heap.size aO aO rfl _ rfl rfl rfl 46 FT rfl ?_);intro v1 kU kI yV;have mv:=m2.own kI (by omega);have kv:=((k0 _).trans k12).own kI (bN _) hlt;go_wp2_with fail;exact jc results54 rfl w v1 mb mo _ _ _ rfl rfl rfl kU mv kv
  |false=>
   have e:s.dm c=MS.dJ ⟨3,s.mr,s.ct,s.ps⟩ c:=by simp[MS.dm,hm,hk]
   have hs3:=hs.third hm hs.r0 hs.r1;have hct:=hs.c2 (Or.inl hm);rw[e]at gq;rw[e];have HK:Hid _:=hk;clear e hm hk;obtain⟨⟨S,EV,B⟩,hS⟩:∃x,MS.dJ ⟨3,s.mr,s.ct,s.ps⟩ c=x:=⟨_,rfl⟩;have HS:Hid _:=hS;rw[hS]at gq;rw[hS];clear hS;dsimp only at gq ⊢;go_enter func54,ntmps54;go_wp2_with (refine yT _ rfl 69 RU (.tmp 29) _ rfl mb mo 0 (by omega) s ⟨3,s.mr,s.ct,s.ps⟩ 3 rfl rfl (h.alloc _) ((h.alloc _).acR 3) ?_);intro u0 m0 kk0 z0;go_wp2_with fail;refine(Ho c false _ HK.o).mono ?_;rintro e w1 ⟨rfl,rfl⟩;go_wp2_with fail;refine(yO mb mo ⟨3,s.mr,s.ct,s.ps⟩ c _ m0 hs3 (by omega) hc1 hct).mono ?_;rw[HS.o];rintro e u1 ⟨rfl,m1,kk1⟩;dsimp only at m1 ⊢;have k1:=kk0.trans kk1;have yo:u1.heap[w.heap.size]? =some (.cells (aA aO) 46 (0,0)):=(k1.block _ (by simp) (by omega)).trans (bV _ _);go_wp2_with (refine b_ _ rfl (.tmp 4) (.tmp 40) rfl w.heap.size aO EV rfl _ rfl rfl gq 46 yo rfl ?_);intro v1 kU kI yV;have mv:=m1.own kI (by omega);have kv:=((k0 _).trans k1).own kI (bN _) hlt;go_wp2_with fail;exact jc results54 rfl w v1 mb mo _ _ _ gq rfl rfl kU mv kv
 ·have e:s.dm c=s.dJ c:=by simp[MS.dm,hm]
  have hct:=hs.c2 (Or.inr hm);rw[e]at gq;have b0:(s.md==0)=false:=by simp[hm]
  have b1:(s.md==1)=false:=by simp[hm]
  have b2:(s.md==2)=false:=by simp[hm]
  have b3:(s.md==3)=true:=by simp[hm]
  have b4:(s.md==4)=false:=by simp[hm]
  rw[e];clear e hm;obtain⟨⟨S,EV,B⟩,hS⟩:∃x,s.dJ c=x:=⟨_,rfl⟩;have HS:Hid _:=hS;rw[hS]at gq;rw[hS];clear hS;dsimp only at gq ⊢;go_enter func54,ntmps54;go_wp2_with fail;refine(yO mb mo s c _ (h.alloc _) hs (by omega) hc1 hct).mono ?_;rw[HS.o];rintro e u1 ⟨rfl,m1,k1⟩;dsimp only at m1 ⊢;have yo:u1.heap[w.heap.size]? =some (.cells (aA aO) 46 (0,0)):=(k1.block _ (by simp) (by omega)).trans (bV _ _);go_wp2_with (refine b_ _ rfl (.tmp 4) (.tmp 40) rfl w.heap.size aO EV rfl _ rfl rfl gq 46 yo rfl ?_);intro v1 kU kI yV;have mv:=m1.own kI (by omega);have kv:=((k0 _).trans k1).own kI (bN _) hlt;go_wp2_with fail;exact jc results54 rfl w v1 mb mo _ _ _ gq rfl rfl kU mv kv
 ·
  have b0:(s.md==0)=false:=by simp[hm]
  have b1:(s.md==1)=false:=by simp[hm]
  have b2:(s.md==2)=false:=by simp[hm]
  have b3:(s.md==3)=false:=by simp[hm]
  have b4:(s.md==4)=true:=by simp[hm]
  cases hk:fe c with
  |true=>
   have e:s.dm c=(.zero,aO,false):=by simp[MS.dm,hm,hk]
   rw[e];have HK:Hid _:=hk;clear e gq hm hk;go_enter func54,ntmps54;go_wp2_with fail;refine(ym c true _ HK.o).mono ?_;rintro e w1 ⟨rfl,rfl⟩;go_wp2_with (refine mV _ rfl (.tmp 46) (.tmp 45) rfl mb mo _ .zero rfl _ rfl rfl jb (h.alloc _) ?_);intro u1 m1 k1 z1;have yo:u1.heap[w.heap.size]? =some (.cells (aA aO) 46 (0,0)):=(k1.block _ (by simp) (by omega)).trans (bV _ _);go_wp2_with (refine b_ _ rfl (.tmp 4) (.tmp 47) rfl w.heap.size aO aO rfl _ rfl rfl rfl 46 yo rfl ?_);intro v1 kU kI yV;have mv:=m1.own kI (by omega);have kv:=((k0 _).trans k1).own kI (bN _) hlt;go_wp2_with fail;exact jc results54 rfl w v1 mb mo _ _ _ rfl rfl rfl kU mv kv
  |false=>
   have e:s.dm c=(s,aO,false):=by simp[MS.dm,hm,hk]
   rw[e];have HK:Hid _:=hk;clear e gq hm hk;go_enter func54,ntmps54;go_wp2_with fail;refine(ym c false _ HK.o).mono ?_;rintro e w1 ⟨rfl,rfl⟩;go_wp2_with (refine b_ _ rfl (.tmp 4) (.tmp 47) rfl w.heap.size aO aO rfl _ rfl rfl rfl 46 (bV w _) rfl ?_);intro v1 kU kI yV;have mv:=(h.alloc _).own kI (by omega);have kv:=(k0 _).own kI (bN _) hlt;go_wp2_with fail;exact jc results54 rfl w v1 mb mo _ _ _ rfl rfl rfl kU mv kv
 ·have e:s.dm c=(s,aO,false):=by simp[MS.dm,hm]
  have b0:(s.md==0)=false:=by simp[hm]
  have b1:(s.md==1)=false:=by simp[hm]
  have b2:(s.md==2)=false:=by simp[hm]
  have b3:(s.md==3)=false:=by simp[hm]
  have b4:(s.md==4)=false:=by simp[hm]
  rw[e];clear e gq hm;go_enter func54,ntmps54;go_wp2_with (refine b_ _ rfl (.tmp 4) (.tmp 47) rfl w.heap.size aO aO rfl _ rfl rfl rfl 46 (bV w _) rfl ?_);intro v1 kU kI yV;have mv:=(h.alloc _).own kI (by omega);have kv:=(k0 _).own kI (bN _) hlt;go_wp2_with fail;exact jc results54 rfl w v1 mb mo _ _ _ rfl rfl rfl kU mv kv
theorem Ed(mb mo:Nat)(s:MS)(c:Int)(w:World)(h:kS w mb mo s)(hs:s.ok)(hc0:0≤c)(hc1:c≤10000000):
 Calls prog 26 #[.pointer (some ⟨mb,mo,none⟩),.int .i64 c] w fun e w'=>e= .returned (.tuple #[.agg (aA (s.take c).2.1),.bool (s.take c).2.2])∧kS w' mb mo (s.take c).1∧Km mb mo w w':=by
 have hlt:=h.lt;have k0:∀o,Km mb mo w (w.alloc o):=fun o=>(Km.refl mb mo w).alloc o hlt;have c0:=h.c0;rcases(show c=24∨c=26∨c=27∨(c≠24∧c≠26∧c≠27) by omega)with hv|hv|hv|⟨n1,n2,n3⟩
 ·have e:s.take c=(.zero,aO,false):=by simp[MS.take,hv]
  rw[e];clear e;subst hv;go_enter func26,ntmps26;go_wp2_with (refine mV _ rfl (.tmp 15) (.tmp 14) rfl mb mo _ .zero rfl _ rfl rfl jb (h.alloc _) ?_);intro u1 m1 k1 z1;have yo:u1.heap[w.heap.size]? =some (.cells (aA aO) 46 (0,0)):=(k1.block _ (by simp) (by omega)).trans (bV _ _);go_wp2_with (refine b_ _ rfl (.tmp 4) (.tmp 44) rfl w.heap.size aO aO rfl _ rfl rfl rfl 46 yo rfl ?_);intro v1 kU kI yV;have mv:=m1.own kI (by omega);have kv:=((k0 _).trans k1).own kI (bN _) hlt;go_wp2_with fail;exact jc results26 rfl w v1 mb mo _ _ _ rfl rfl rfl kU mv kv
 ·have e:s.take c=(.zero,aO,false):=by simp[MS.take,hv]
  rw[e];clear e;subst hv;go_enter func26,ntmps26;go_wp2_with (refine mV _ rfl (.tmp 15) (.tmp 14) rfl mb mo _ .zero rfl _ rfl rfl jb (h.alloc _) ?_);intro u1 m1 k1 z1;have yo:u1.heap[w.heap.size]? =some (.cells (aA aO) 46 (0,0)):=(k1.block _ (by simp) (by omega)).trans (bV _ _);go_wp2_with (refine b_ _ rfl (.tmp 4) (.tmp 44) rfl w.heap.size aO aO rfl _ rfl rfl rfl 46 yo rfl ?_);intro v1 kU kI yV;have mv:=m1.own kI (by omega);have kv:=((k0 _).trans k1).own kI (bN _) hlt;go_wp2_with fail;exact jc results26 rfl w v1 mb mo _ _ _ rfl rfl rfl kU mv kv
 ·have e:s.take c=(⟨1,0,0,z16⟩,aO,false):=by simp[MS.take,hv]
  rw[e];clear e;subst hv;go_enter func26,ntmps26;go_wp2_with (refine mV _ rfl (.tmp 21) (.tmp 20) rfl mb mo _ ⟨1,0,0,z16⟩ rfl _ rfl rfl jb (h.alloc _) ?_);intro u1 m1 k1 z1;have yo:u1.heap[w.heap.size]? =some (.cells (aA aO) 46 (0,0)):=(k1.block _ (by simp) (by omega)).trans (bV _ _);go_wp2_with (refine b_ _ rfl (.tmp 4) (.tmp 44) rfl w.heap.size aO aO rfl _ rfl rfl rfl 46 yo rfl ?_);intro v1 kU kI yV;have mv:=m1.own kI (by omega);have kv:=((k0 _).trans k1).own kI (bN _) hlt;go_wp2_with fail;exact jc results26 rfl w v1 mb mo _ _ _ rfl rfl rfl kU mv kv
 ·have d1:(c==24)=false:=by simp[n1]
  have d2:(c==26)=false:=by simp[n2]
  have d3:(c==27)=false:=by simp[n3]
  by_cases hm:s.md=5
  ·have e:s.take c=(s.skip c,aO,false):=by simp[MS.take,n1,n2,n3,hm]
   have b5:(s.md==5)=true:=by simp[hm]
   rw[e];clear e hm n1 n2 n3;go_enter func26,ntmps26;go_wp2_with fail;refine(Oe mb mo s c _ (h.alloc _)).mono ?_;rintro e u1 ⟨rfl,m1,k1⟩;have yo:u1.heap[w.heap.size]? =some (.cells (aA aO) 46 (0,0)):=(k1.block _ (by simp) (by omega)).trans (bV _ _);go_wp2_with (refine b_ _ rfl (.tmp 4) (.tmp 44) rfl w.heap.size aO aO rfl _ rfl rfl rfl 46 yo rfl ?_);intro v1 kU kI yV;have mv:=m1.own kI (by omega);have kv:=((k0 _).trans k1).own kI (bN _) hlt;go_wp2_with fail;exact jc results26 rfl w v1 mb mo _ _ _ rfl rfl rfl kU mv kv
  ·have b5:(s.md==5)=false:=by simp[hm]
   by_cases h32:c<32
   ·have e:s.take c=(s,[2,c,0,0,0]++z16,true):=by simp[MS.take,n1,n2,n3,hm,h32]
    rw[e];clear e hm n1 n2 n3;go_enter func26,ntmps26;go_wp2_with (refine b_ _ rfl (.tmp 4) (.tmp 35) rfl w.heap.size aO ([2,c,0,0,0]++z16) rfl _ rfl rfl rfl 46 (bV w _) rfl ?_);intro v1 kU kI yV;have mv:=(h.alloc _).own kI (by omega);have kv:=(k0 _).own kI (bN _) hlt;go_wp2_with fail;exact jc results26 rfl w v1 mb mo _ _ _ rfl rfl rfl kU mv kv
   ·by_cases h127:c=127
    ·have e:s.take c=(s,aO,false):=by simp[MS.take,hm,h127]
     rw[e];clear e hm n1 n2 n3 d1 d2 d3;subst h127;go_enter func26,ntmps26;go_wp2_with (refine b_ _ rfl (.tmp 4) (.tmp 44) rfl w.heap.size aO aO rfl _ rfl rfl rfl 46 (bV w _) rfl ?_);intro v1 kU kI yV;have mv:=(h.alloc _).own kI (by omega);have kv:=(k0 _).own kI (bN _) hlt;go_wp2_with fail;exact jc results26 rfl w v1 mb mo _ _ _ rfl rfl rfl kU mv kv
    ·have e:s.take c=s.dm c:=by simp[MS.take,n1,n2,n3,hm,h32,h127]
     have gq:=vC hs.len c;have d4:(c != 127)=true:=by simp[h127]
     rw[e];clear e hm n1 n2 n3 h127;obtain⟨⟨S,EV,B⟩,hS⟩:∃x,s.dm c=x:=⟨_,rfl⟩;have HS:Hid _:=hS;rw[hS]at gq;rw[hS];clear hS;dsimp only at gq ⊢;go_enter func26,ntmps26;go_wp2_with fail;refine(FH mb mo s c _ (h.alloc _) hs (by omega) hc1).mono ?_;rw[HS.o];rintro e u1 ⟨rfl,m1,k1⟩;dsimp only at m1 ⊢;have yo:u1.heap[w.heap.size]? =some (.cells (aA aO) 46 (0,0)):=(k1.block _ (by simp) (by omega)).trans (bV _ _);go_wp2_with (refine b_ _ rfl (.tmp 4) (.tmp 42) rfl w.heap.size aO EV rfl _ rfl rfl gq 46 yo rfl ?_);intro v1 kU kI yV;have mv:=m1.own kI (by omega);have kv:=((k0 _).trans k1).own kI (bN _) hlt;go_wp2_with fail;exact jc results26 rfl w v1 mb mo _ _ _ gq rfl rfl kU mv kv
theorem uX{e:TypeId}{v:Value}{xs:List Value}(h:w.ownsRow base e 1 v n xs):
 ∃ao cap,v= .slice ao n cap∧∀j x,xs[j]? =some x→∃g,ao=some ⟨g,0,none⟩∧w.cell? ⟨g,j,none⟩=some x:=by
 obtain⟨h1,h2⟩:=h;rcases h2 with⟨rfl,h0⟩|⟨g,cap,cur,rfl,_,hg,hn,_,hcs,htake⟩
 ·refine⟨none,0,by rw[h0],fun j x hj=>?_⟩;have:xs=[]:=zT (by rw[h1,h0]);subst this;simp at hj
 ·refine⟨_,cap,rfl,fun j x hj=>⟨g,rfl,?_⟩⟩;rw[bG _ _ _ _ _ _ hg];rw[←htake,mJ]at hj;split at hj
  ·simpa using hj
  ·cases hj
structure C_ (w:World) (bb:Nat) (vi vm:Value) (I:List Value) (M:List Int) (E:List (Value × Int)) (nx:Int):Prop where
 c0:w.cell? ⟨bb,0,none⟩=some vi
 c1:w.cell? ⟨bb,1,none⟩=some vm
 c2:w.cell? ⟨bb,2,none⟩=some (.slice none 0 0)
 c3:w.cell? ⟨bb,3,none⟩=some (.slice none 0 0)
 c4:w.cell? ⟨bb,4,none⟩=some (.slice none 0 0)
 c5:w.cell? ⟨bb,5,none⟩=some (.slice none 0 0)
 c6:w.cell? ⟨bb,6,none⟩=some (.int .i64 nx)
 f:∀j,j<7→w.frozen? ⟨bb,j,none⟩=false
 oi:w.ownsRow (bb+1) 53 1 vi I.length I
 om:gI w (bb+1) vm M
 ent:∀x∈E,Apart x.1 vm∧∃p,p≤1000000000∧gI w (bb+1) x.1 (List.replicate p x.2)
theorem C_.below(h:C_ w bb vi vm I M E nx)(hb:Below w.heap.size w w'):C_ w' bb vi vm I M E nx:=by
 have hlt:bb<w.heap.size:=F4 _ _ h.c0;have hg:w.grownBy w' none:=⟨hb.os,hb.tape,hb.output,hb.size,fun k hk _=>hb.block k hk⟩;have hr:∀{base e size v n xs},w.ownsRow base e size v n xs→w'.ownsRow base e size v n xs:=fun{_ _ _ v _ _} h=>h.kept hg (by cases hv:v.ownBlock<;>simp)
 refine⟨(hb.cell hlt).trans h.c0,(hb.cell hlt).trans h.c1,(hb.cell hlt).trans h.c2,(hb.cell hlt).trans h.c3,(hb.cell hlt).trans h.c4,(hb.cell hlt).trans h.c5,(hb.cell hlt).trans h.c6,
  fun j hj=>(hb.frozen hlt).trans (h.f j hj),hr h.oi,hr h.om,fun x hx=>?_⟩
 obtain⟨a,p,hp,hl⟩:=h.ent x hx;exact⟨a,p,hp,hr hl⟩
theorem Apart.symm{v:Value}(h:Apart u v):Apart v u:=by
 unfold Apart at*;cases hv:v.ownBlock with
 |none=>exact Or.inl rfl
 |some k=>
  rcases h with h|h
  ·right;rw[h];simp
  ·right;rw[hv]at h;exact fun e=>h e.symm
theorem Apart.later{v z:Value}(h:v.ownBlock=u.ownBlock∨∃k,v.ownBlock=some k∧n≤k)(ha:Apart u z)(hz:∀k,z.ownBlock=some k→k<n):Apart v z:=by
 unfold Apart at*;rcases h with h|⟨k,h,hk⟩
 ·rw[h];exact ha
 ·right;rw[h];intro e;have:=hz k e.symm;omega
theorem NL(p:Nat)(m:Int):qQ p [.int .i64 m]=(List.replicate p m).map (Value.int .i64):=by
 induction p with
 |zero=>rfl
 |succ p ih=>unfold qQ at ih ⊢;rw[AO,List.flatten_cons,ih,AO,List.map_cons];rfl
theorem gI.qQ{v:Value}:gI w base v (List.replicate p m)↔w.ownsRow base 3 1 v p (qQ p [.int .i64 m]):=by unfold gI;rw[NL,kJ]
theorem C_.grown(h:C_ w bb vi vm I M E nx){row:Option Nat}(hg:w.grownBy w' row)(hbb:some bb≠row)(hi:vi.ownBlock=none∨vi.ownBlock≠row)(hm:vm.ownBlock=none∨vm.ownBlock≠row)(hE:∀x∈E,x.1.ownBlock=none∨x.1.ownBlock≠row):C_ w' bb vi vm I M E nx:=by
 have hlt:bb<w.heap.size:=F4 _ _ h.c0;have hbk:=hg.block bb hlt hbb
 refine⟨(dA hbk).trans h.c0,(dA hbk).trans h.c1,(dA hbk).trans h.c2,(dA hbk).trans h.c3,(dA hbk).trans h.c4,(dA hbk).trans h.c5,(dA hbk).trans h.c6,
  fun j hj=>(CY hbk).trans (h.f j hj),h.oi.kept hg hi,xU h.om hg hm,fun x hx=>?_⟩
 obtain⟨a,p,hp,hl⟩:=h.ent x hx;exact⟨a,p,hp,xU hl hg (hE x hx)⟩
structure Fr (S:Nat→Prop) (w w':World):Prop where
 os:w'.os=w.os
 tape:w'.tape=w.tape
 output:w'.output=w.output
 size:w.heap.size≤w'.heap.size
 block:∀g,g<w.heap.size→¬S g→w'.heap[g]? =w.heap[g]?
theorem Fr.trans{a b c:World}(h:Fr S a b)(k:Fr S b c):Fr S a c:=
 ⟨k.os.trans h.os,k.tape.trans h.tape,k.output.trans h.output,iD h.size k.size,fun g hg hs=>(k.block g (fJ hg h.size) hs).trans (h.block g hg hs)⟩
theorem Fr.grown{row:Option Nat}(h:w.grownBy w' row)(hs:∀g,some g=row→S g):Fr S w w':=
 ⟨h.os,h.tape,h.output,h.size,fun g hg hn=>h.block g hg (fun e=>hn (hs g e))⟩
theorem Fr.set{b o:Nat}{x:Value}(hs:S b):Fr S w (w.setCell ⟨b,o,none⟩ x):=
 ⟨rfl,rfl,rfl,by simp[World.setCell],fun g _ hn=>AQ _ _ _ _ (fun e=>hn (e▸hs))⟩
theorem Fr.below(h:Fr S w w')(hB:B≤w.heap.size)(hs:∀g,g<B→¬S g):Below B w w':=
 ⟨h.os,h.tape,h.output,h.size,fun k hk=>h.block k (by omega) (hs k hk)⟩
theorem gI.slice{b:Nat}{v:Value}(h:gI w b v (List.replicate p m)):∃a c,v= .slice a p c:=by obtain⟨a,c,e,_⟩:=uX h;exact⟨a,c,by simpa using e⟩
def bl (s:ByteArray):List Int:=s.data.toList.map fun c=>(c.toNat:Int)
theorem cZ(s:ByteArray):(bl s).length=s.size:=by simp[bl]
theorem Us(s:ByteArray)(k:Nat)(h:k<s.size):(bl s).take (k+1)=(bl s).take k++[((s[k]'h).toNat:Int)]:=by rw[o7 (by rw[cZ];exact h)];simp[bl];rfl
theorem Xv(s:ByteArray):(bl s).take s.size=bl s:=l6 (by rw[cZ];exact bN _)
theorem gI.mono{B':Nat}{v:Value}{L:List Int}(h:gI w B v L)(hB:B'≤B):gI w B' v L:=by
 obtain⟨h1,h2⟩:=h;refine⟨h1,?_⟩;rcases h2 with h2|⟨g,cap,cur,hv,hg,r⟩
 ·exact Or.inl h2
 ·exact Or.inr ⟨g,cap,cur,hv,iD hB hg,r⟩
theorem qb.lt{w:World}(h:qb w):0<w.heap.size:=by obtain⟨t,fr,h⟩:=h;exact(wK.1 h).1
def oP (c:Int):List Int:=
 if c<128 then[c]else if c<2048 then[192+c / 64,128+c % 64]else if c<65536 then[224+c / 4096,128+c / 64 % 64,128+c % 64]
 else[240+c / 262144,128+c / 4096 % 64,128+c / 64 % 64,128+c % 64]
theorem Ov{r:RS}(h:128≤b)(hl:lead b=some r):RS.zero.take b=(r,[]):=by simp[RS.take,RS.zero,RS.uC,hl,show¬b<128 by omega]
theorem Eb(hm:s.m≠0)(h0:s.lo≤b)(h1:b≤s.hi):s.take b=s.join b:=by
 have h:¬(b<s.lo∨s.hi<b):=by omega
 simp only[RS.take,hm,h,ou]
theorem Nq{v:Int}(hm:m≠1):RS.join ⟨m,lo,hi,v⟩ b=(⟨m-1,128,191,v*64+b % 64⟩,[]):=by simp[RS.join,hm]
theorem join_one{v:Int}:RS.join ⟨1,lo,hi,v⟩ b=(.zero,[v*64+b % 64]):=by simp[RS.join]
theorem Om{v:Int}(hm0:m≠0)(hm:m≠1)(h0:lo≤b)(h1:b≤hi):RS.take ⟨m,lo,hi,v⟩ b=(⟨m-1,128,191,v*64+b % 64⟩,[]):=
 (Eb (s:=⟨m,lo,hi,v⟩) hm0 h0 h1).trans (Nq hm)
theorem Sb{v:Int}(h0:lo≤b)(h1:b≤hi):RS.take ⟨1,lo,hi,v⟩ b=(.zero,[v*64+b % 64]):=
 (Eb (s:=⟨1,lo,hi,v⟩) (by simp) h0 h1).trans join_one
def jE (b:Int):Int:=if b<128 then 1 else if 194≤b∧b≤223 then 2 else if 224≤b∧b≤239 then 3 else if 240≤b∧b≤244 then 4 else 0
def Cv (first k:Int):Int:=if k=1 then(if first=224 then 160 else if first=240 then 144 else 128)else 128
def Cu (first k:Int):Int:=if k=1 then(if first=237 then 159 else if first=244 then 143 else 191)else 191
def eU (first k b:Int):Bool:=decide (Cv first k≤b∧b≤Cu first k)
def iW (first:Int) (n:Nat):List Int→Nat→Int→Int × Nat × Bool
 | [],k,v=>if k<n then(65533,k,false)else(v,n,true)
 |b::r,k,v=>if k<n then(if eU first k b=true then iW first n r (k+1) (64*v+b-128)else(65533,k,true))else(v,n,true)
def jS (first:Int) (rest:List Int):Int × Nat × Bool:=
 if jE first=0 then(65533,1,true)else if jE first=1 then(first,1,true)
 else iW first (jE first).toNat rest 1 (if jE first=3 then first % 16 else if jE first=4 then first % 8 else first % 32)
def nU (e:Bool) (l:List Int):List Int:=(RS.zero.run l).2++(if e then(RS.zero.run l).1.fin.2 else[])
theorem oL(l:List Int):nU false l=(RS.zero.run l).2:=by simp[nU]
theorem BC(e:Bool):nU e []=[]:=by cases e<;>simp[nU,RS.run,RS.fin,RS.zero]
theorem Sq(hm:s.m≠0)(h:b<s.lo∨s.hi<b):s.take b=((RS.zero.take b).1,65533::(RS.zero.take b).2):=by
 have e1:s.fin=(.zero,[65533]):=by simp[RS.fin,hm]
 have e2:RS.zero.take b=RS.zero.uC b:=by simp[RS.take,RS.zero]
 rw[e2];simp only[RS.take,hm,h,if_true,ou,e1];rfl
structure Goes (s:RS) (rest:List Int) (c:Int) (j:Nat) (wh:Bool):Prop where
 yes:wh=true→j≤rest.length∧s.run rest=((RS.zero.run (rest.drop j)).1,c::(RS.zero.run (rest.drop j)).2)
 no:wh=false→j=rest.length∧c=65533∧(s.run rest).2=[]∧(s.run rest).1.m≠0
theorem Ym(first:Int)(n:Nat)(rest:List Int)(hb:∀b∈rest,0≤b∧b<256):
 ∀(k:Nat) (v:Int),1≤k→k<n→∃j,(iW first n rest k v).2.1=k+j∧Goes ⟨(n:Int)-k,Cv first k,Cu first k,v⟩ rest (iW first n rest k v).1 j (iW first n rest k v).2.2:=by
 induction rest with
 |nil=>
  intro k v h1 hk;refine⟨0,?_,?_,?_⟩
  ·simp[iW,hk]
  ·intro h;simp[iW,hk]at h
  ·intro _;simp[iW,hk,RS.run];omega
 |cons b r ih=>
  intro k v h1 hk;obtain⟨hb0,hb1⟩:=hb b (by simp);have hm:((n:Int)-k)≠0:=by omega
  by_cases hg:eU first k b=true
  ·have hg':Cv first k≤b∧b≤Cu first k:=by simpa[eU]using hg
   have hbb:128≤b∧b≤191:=by
    unfold Cv Cu at hg'
    repeat' split at hg'
    all_goals omega
   have hv:v*64+b % 64=64*v+b-128:=by omega
   have e:iW first n (b::r) k v=iW first n r (k+1) (64*v+b-128):=by simp[iW,hk,hg]
   rw[e];by_cases hk1:k+1<n
   ·obtain⟨j,hj,hy,hn⟩:=ih (fun x hx=>hb x (by simp[hx])) (k+1) (64*v+b-128) (by omega) hk1;have hlo:Cv first ((k+1:Nat):Int)=128:=by unfold Cv;rw[ai (by omega)]
    have hhi:Cu first ((k+1:Nat):Int)=191:=by unfold Cu;rw[ai (by omega)]
    rw[hlo,hhi]at hy hn;have hst:RS.take ⟨(n:Int)-k,Cv first k,Cu first k,v⟩ b=(⟨(n:Int)-(k+1:Nat),128,191,64*v+b-128⟩,[]):=by
     rw[Om hm (by omega) hg'.1 hg'.2,hv];have:(n:Int)-k-1=(n:Int)-(k+1:Nat):=by omega
     rw[this]
    refine⟨j+1,by omega,?_,?_⟩
    ·intro hw;obtain⟨y1,y2⟩:=hy hw;refine⟨by simpa using y1,?_⟩;simp only[RS.run,hst,AP,mP];exact y2
    ·intro hw;obtain⟨n1,n2,n3,n4⟩:=hn hw;refine⟨by simpa using n1,n2,?_,?_⟩
     ·simp only[RS.run,hst,mP];exact n3
     ·simp only[RS.run,hst];exact n4
   ·have hkn:(n:Int)-k=1:=by omega
    have e2:iW first n r (k+1) (64*v+b-128)=(64*v+b-128,n,true):=by cases r<;>simp[iW,show¬k+1<n by omega]
    rw[e2,hkn];refine⟨1,by dsimp only;omega,?_,?_⟩
    ·intro _;refine⟨by simp,?_⟩;simp only[RS.run,Sb hg'.1 hg'.2,hv,AP,List.drop_zero];rfl
    ·intro h;simp at h
  ·have hg':b<Cv first k∨Cu first k<b:=by
    have:¬(Cv first k≤b∧b≤Cu first k):=by simpa[eU]using hg
    omega
   have e:iW first n (b::r) k v=(65533,k,true):=by simp[iW,hk,hg]
   rw[e];refine⟨0,rfl,?_,?_⟩
   ·intro _;refine⟨dx _,?_⟩;simp only[RS.run,Sq (s:=⟨(n:Int)-k,Cv first k,Cu first k,v⟩) hm hg',List.drop_zero];rfl
   ·intro h;simp at h
theorem Q_(h:jE b=2∨jE b=3∨jE b=4):
 128≤b∧lead b=some ⟨jE b-1,Cv b 1,Cu b 1,if jE b=3 then b % 16 else if jE b=4 then b % 8 else b % 32⟩:=by
 unfold jE at h ⊢;unfold lead Cv Cu;by_cases a1:b<128
 ·simp[a1]at h
 ·by_cases a2:194≤b∧b≤223
  ·refine⟨by omega,?_⟩;rw[ai (by omega),ak a2.2,ai a1,ak a2];simp[show b≠224 by omega,show b≠240 by omega,show b≠237 by omega,show b≠244 by omega]
  ·by_cases a3:224≤b∧b≤239
   ·refine⟨by omega,?_⟩;rw[ai (by omega),ai (by omega),ai a1,ai a2,ak a3]
    repeat' split
    all_goals first|rfl|(exfalso;omega)
   ·by_cases a4:240≤b∧b≤244
    ·refine⟨by omega,?_⟩;rw[ai (by omega),ai (by omega),ai (by omega),ai (by omega),ai (by omega),ai (by omega),ai a1,ai a2,ai a3,ak a4]
     repeat' split
     all_goals first|rfl|(exfalso;omega)
    ·rw[ai a1,ai a2,ai a3,ai a4]at h;omega
theorem BA(b:Int):(jE b=1∧b<128)∨(jE b=0∧128≤b∧lead b=none)∨jE b=2∨jE b=3∨jE b=4:=by
 unfold jE;by_cases a1:b<128
 ·left;simp[a1]
 ·by_cases a2:194≤b∧b≤223
  ·right;right;left;simp[a1,a2]
  ·by_cases a3:224≤b∧b≤239
   ·right;right;right;left;rw[ai a1,ai a2,ak a3]
   ·by_cases a4:240≤b∧b≤244
    ·right;right;right;right;rw[ai a1,ai a2,ai a3,ak a4]
    ·right;left;refine⟨by rw[ai a1,ai a2,ai a3,ai a4],by omega,?_⟩;unfold lead
     repeat' split
     all_goals first|rfl|(exfalso;omega)
theorem MV(first:Int)(rest:List Int)(_h0:0≤first)(hb:∀b∈rest,0≤b∧b<256):
 1≤(jS first rest).2.1∧Goes .zero (first::rest) (jS first rest).1 (jS first rest).2.1 (jS first rest).2.2:=by
 rcases BA first with⟨h,hf⟩|⟨h,hf,hl⟩|h
 ·have e:jS first rest=(first,1,true):=by simp[jS,h]
  rw[e];refine⟨bN _,fun _=>⟨by simp,?_⟩,fun h=>by simp at h⟩;have:RS.zero.take first=(.zero,[first]):=by simp[RS.take,RS.zero,RS.uC,hf]
  simp only[RS.run,this,AP,List.drop_zero];rfl
 ·have e:jS first rest=(65533,1,true):=by simp[jS,h]
  rw[e];refine⟨bN _,fun _=>⟨by simp,?_⟩,fun h=>by simp at h⟩;have:RS.zero.take first=(.zero,[65533]):=by simp[RS.take,RS.zero,RS.uC,hl,show¬first<128 by omega]
  simp only[RS.run,this,AP,List.drop_zero];rfl
 ·obtain⟨hf,hl⟩:=Q_ h;have e:jS first rest=iW first (jE first).toNat rest 1 (if jE first=3 then first % 16 else if jE first=4 then first % 8 else first % 32):=by unfold jS;rw[ai (by omega),ai (by omega)]
  rw[e];obtain⟨j,hj,hy,hn⟩:=Ym first (jE first).toNat rest hb 1 (if jE first=3 then first % 16 else if jE first=4 then first % 8 else first % 32) (bN _) (by omega);have hst:=Ov hf hl;have hn1:(((jE first).toNat:Nat):Int)-((1:Nat):Int)=jE first-1:=by omega
  rw[hn1]at hy hn;refine⟨by omega,fun hw=>?_,fun hw=>?_⟩
  ·obtain⟨y1,y2⟩:=hy hw;rw[hj,show 1+j=j+1 by omega];refine⟨by simpa using y1,?_⟩;simp only[RS.run,hst,AP,mP];exact y2
  ·obtain⟨n1,n2,n3,n4⟩:=hn hw;refine⟨by rw[hj];simp;omega,n2,?_,?_⟩
   ·simp only[RS.run,hst,mP];exact n3
   ·simp only[RS.run,hst];exact n4
theorem Mc{c:Int}(h:Goes .zero (first::rest) c j true)(e:Bool):j≤(first::rest).length∧nU e (first::rest)=c::nU e ((first::rest).drop j):=by obtain⟨h1,h2⟩:=h.yes rfl;refine⟨h1,?_⟩;unfold nU;rw[h2];rfl
theorem Rj{c:Int}(h:Goes .zero (first::rest) c j false)(e:Bool):j=(first::rest).length∧nU e (first::rest)=(if e then[c]else[]):=by obtain⟨h1,h2,h3,h4⟩:=h.no rfl;refine⟨h1,?_⟩;unfold nU;rw[h3,h2];cases e<;>simp[RS.fin,h4]
end Go.Proofs.YtheibfffilomcaaGreatDoor
