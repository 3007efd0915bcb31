import Derived.Test.YtheibfffilomcabGreatDoorR4U
import Derived.Test.YtheibfffilomcabGreatDoorMweU
import Derived.Test.YtheibfffilomcabGreatDoorEvnU
import Derived.Deep.QuietTactic
import Derived.BigQuiet
import Derived.Test.YtheibfffilomcabGreatDoorXaU
import Derived.ChangeKeysEq
set_option linter.all false
set_option maxRecDepth 100000
set_option maxHeartbeats 1000000
namespace Go.Proofs.YtheibfffilomcabGreatDoor
open Go.RowKit Go.Proofs.Tryz
variable {w w':World} {v vi vm u:Value} {S:Nat→Prop} {bb base n p b B:Nat} {I:List Value} {M:List Int} {E:List (Value × Int)} {nx m:Int} {s:RS}
theorem Dv(mb mo:Nat)(s:MS)(c:Int)(w:World)(h:iD w mb mo s)(hs:s.ok)(hc0:32≤c)(hc1:c≤10000000):
 Calls prog 76 #[.pointer (some ⟨mb,mo,none⟩),.int .i64 c] w fun e w'=>e= .returned (.tuple #[.agg (aO (s.bT c).2.1),.bool (s.bT c).2.2])∧iD w' mb mo (s.bT c).1∧Km mb mo w w':=by
 have hlt:=h.lt;have k0:∀o,Km mb mo w (w.alloc o):=fun o=>(Km.refl mb mo w).alloc o hlt;have c0:=h.c0;have gM:=rF hs.len c;rcases(show s.md=0∨s.md=1∨s.md=2∨s.md=3∨s.md=4∨s.md=5 by have:=hs.m0;have:=hs.m5;omega)with hm|hm|hm|hm|hm|hm
 ·have e:s.bT c=(s,[1,c,0,0,0]++z16,true):=by simp[MS.bT,hm]
  have b0:(s.md==0)=true:=by simp[hm]
  have b1:(s.md==1)=false:=by simp[hm]
  have b2:(s.md==2)=false:=by simp[hm]
  have b3:(s.md==3)=false:=by simp[hm]
  have b4:(s.md==4)=false:=by simp[hm]
  rw[e];clear e gM hm;go_enter func76,ntmps76;go_wp2_with (refine cZ _ rfl (.tmp 4) (.tmp 21) rfl w.heap.size bG ([1,c,0,0,0]++z16) rfl _ rfl rfl rfl 92 (bJ w _) rfl ?_);intro v1 qo jY DL;have mv:=(h.alloc _).own jY (by omega);have kv:=(k0 _).own jY (bE _) hlt;go_wp2_with fail;exact fE results76 rfl w v1 mb mo _ _ _ rfl rfl rfl qo mv kv
 ·have e:s.bT c=s.dz c:=by simp[MS.bT,hm]
  rw[e]at gM;have b0:(s.md==0)=false:=by simp[hm]
  have b1:(s.md==1)=true:=by simp[hm]
  have b2:(s.md==2)=false:=by simp[hm]
  have b3:(s.md==3)=false:=by simp[hm]
  have b4:(s.md==4)=false:=by simp[hm]
  rw[e];clear e hm;obtain⟨⟨S,EV,B⟩,hS⟩:∃x,s.dz c=x:=⟨_,rfl⟩;have HS:Hid _:=hS;rw[hS]at gM;rw[hS];clear hS;dsimp only at gM ⊢;go_enter func76,ntmps76;go_wp2_with fail;refine(Du mb mo s c _ (h.alloc _) hc0).mono ?_;rw[HS.o];rintro e u1 ⟨rfl,m1,k1⟩;dsimp only at m1 ⊢;have uE:u1.heap[w.heap.size]? =some (.cells (aO bG) 92 (0,0)):=(k1.block _ (by simp) (by omega)).trans (bJ _ _);go_wp2_with (refine cZ _ rfl (.tmp 4) (.tmp 25) rfl w.heap.size bG EV rfl _ rfl rfl gM 92 uE rfl ?_);intro v1 qo jY DL;have mv:=m1.own jY (by omega);have kv:=((k0 _).trans k1).own jY (bE _) hlt;go_wp2_with fail;exact fE results76 rfl w v1 mb mo _ _ _ gM rfl rfl qo mv kv
 ·have c1:=h.c1;have b0:(s.md==0)=false:=by simp[hm]
  have b1:(s.md==1)=false:=by simp[hm]
  have b2:(s.md==2)=true:=by simp[hm]
  have b3:(s.md==3)=false:=by simp[hm]
  have b4:(s.md==4)=false:=by simp[hm]
  cases hk:lJ c with
  |true=>
   have e:s.bT c=(⟨3,c,s.ct,s.ps⟩,bG,false):=by simp[MS.bT,hm,hk]
   rw[e];have HK:Hid _:=hk;clear e gM hm hk;go_enter func76,ntmps76;go_wp2_with (refine vD _ rfl 56 Pz (.tmp 29) _ rfl mb mo 0 (by omega) s ⟨3,s.mr,s.ct,s.ps⟩ 3 rfl rfl (h.alloc _) ((h.alloc _).ZZ 3) ?_);intro u1 m1 k1 z1;go_wp2_with fail;refine(EN c true _ HK.o).mono ?_;rintro e w1 ⟨rfl,rfl⟩;go_wp2_with (refine vD _ rfl 3 SL (.tmp 35) (.tmp 33) rfl mb mo 1 (by omega) ⟨3,s.mr,s.ct,s.ps⟩ ⟨3,c,s.ct,s.ps⟩ c rfl rfl m1 (m1.Z4 c) ?_);intro u2 m2 k2 z2;have k12:=k1.trans k2;have DJ:u2.heap[w.heap.size]? =some (.cells (aO bG) 92 (0,0)):=(k12.block _ (by simp) (by omega)).trans (bJ _ _);go_wp2_with (refine cZ _ rfl (.tmp 4) (.tmp 36) rfl w.heap.size bG bG rfl _ rfl rfl rfl 92 DJ rfl ?_);intro v1 qo jY DL;have mv:=m2.own jY (by omega);have kv:=((k0 _).trans k12).own jY (bE _) hlt;go_wp2_with fail;exact fE results76 rfl w v1 mb mo _ _ _ rfl rfl rfl qo mv kv
  |false=>
   have e:s.bT c=MS.cO ⟨3,s.mr,s.ct,s.ps⟩ c:=by simp[MS.bT,hm,hk]
   have hs3:=hs.third hm hs.r0 hs.r1;have hct:=hs.c2 (Or.inl hm);rw[e]at gM;rw[e];have HK:Hid _:=hk;clear e hm hk;obtain⟨⟨S,EV,B⟩,hS⟩:∃x,MS.cO ⟨3,s.mr,s.ct,s.ps⟩ c=x:=⟨_,rfl⟩;have HS:Hid _:=hS;rw[hS]at gM;rw[hS];clear hS;dsimp only at gM ⊢;go_enter func76,ntmps76;go_wp2_with (refine vD _ rfl 56 Pz (.tmp 29) _ rfl mb mo 0 (by omega) s ⟨3,s.mr,s.ct,s.ps⟩ 3 rfl rfl (h.alloc _) ((h.alloc _).ZZ 3) ?_);intro u0 m0 kk0 z0;go_wp2_with fail;refine(EN c false _ HK.o).mono ?_;rintro e w1 ⟨rfl,rfl⟩;go_wp2_with fail;refine(ve mb mo ⟨3,s.mr,s.ct,s.ps⟩ c _ m0 hs3 (by omega) hc1 hct).mono ?_;rw[HS.o];rintro e u1 ⟨rfl,m1,Zh⟩;dsimp only at m1 ⊢;have k1:=kk0.trans Zh;have uE:u1.heap[w.heap.size]? =some (.cells (aO bG) 92 (0,0)):=(k1.block _ (by simp) (by omega)).trans (bJ _ _);go_wp2_with (refine cZ _ rfl (.tmp 4) (.tmp 40) rfl w.heap.size bG EV rfl _ rfl rfl gM 92 uE rfl ?_);intro v1 qo jY DL;have mv:=m1.own jY (by omega);have kv:=((k0 _).trans k1).own jY (bE _) hlt;go_wp2_with fail;exact fE results76 rfl w v1 mb mo _ _ _ gM rfl rfl qo mv kv
 ·have e:s.bT c=s.cO c:=by simp[MS.bT,hm]
  have hct:=hs.c2 (Or.inr hm);rw[e]at gM;have b0:(s.md==0)=false:=by simp[hm]
  have b1:(s.md==1)=false:=by simp[hm]
  have b2:(s.md==2)=false:=by simp[hm]
  have b3:(s.md==3)=true:=by simp[hm]
  have b4:(s.md==4)=false:=by simp[hm]
  rw[e];clear e hm;obtain⟨⟨S,EV,B⟩,hS⟩:∃x,s.cO c=x:=⟨_,rfl⟩;have HS:Hid _:=hS;rw[hS]at gM;rw[hS];clear hS;dsimp only at gM ⊢;go_enter func76,ntmps76;go_wp2_with fail;refine(ve mb mo s c _ (h.alloc _) hs (by omega) hc1 hct).mono ?_;rw[HS.o];rintro e u1 ⟨rfl,m1,k1⟩;dsimp only at m1 ⊢;have uE:u1.heap[w.heap.size]? =some (.cells (aO bG) 92 (0,0)):=(k1.block _ (by simp) (by omega)).trans (bJ _ _);go_wp2_with (refine cZ _ rfl (.tmp 4) (.tmp 40) rfl w.heap.size bG EV rfl _ rfl rfl gM 92 uE rfl ?_);intro v1 qo jY DL;have mv:=m1.own jY (by omega);have kv:=((k0 _).trans k1).own jY (bE _) hlt;go_wp2_with fail;exact fE results76 rfl w v1 mb mo _ _ _ gM rfl rfl qo mv kv
 ·
  have b0:(s.md==0)=false:=by simp[hm]
  have b1:(s.md==1)=false:=by simp[hm]
  have b2:(s.md==2)=false:=by simp[hm]
  have b3:(s.md==3)=false:=by simp[hm]
  have b4:(s.md==4)=true:=by simp[hm]
  cases hk:iF c with
  |true=>
   have e:s.bT c=(.zero,bG,false):=by simp[MS.bT,hm,hk]
   rw[e];have HK:Hid _:=hk;clear e gM hm hk;go_enter func76,ntmps76;go_wp2_with fail;refine(uB c true _ HK.o).mono ?_;rintro e w1 ⟨rfl,rfl⟩;go_wp2_with (refine jm _ rfl (.tmp 46) (.tmp 45) rfl mb mo _ .zero rfl _ rfl rfl fq (h.alloc _) ?_);intro u1 m1 k1 z1;have uE:u1.heap[w.heap.size]? =some (.cells (aO bG) 92 (0,0)):=(k1.block _ (by simp) (by omega)).trans (bJ _ _);go_wp2_with (refine cZ _ rfl (.tmp 4) (.tmp 47) rfl w.heap.size bG bG rfl _ rfl rfl rfl 92 uE rfl ?_);intro v1 qo jY DL;have mv:=m1.own jY (by omega);have kv:=((k0 _).trans k1).own jY (bE _) hlt;go_wp2_with fail;exact fE results76 rfl w v1 mb mo _ _ _ rfl rfl rfl qo mv kv
  |false=>
   have e:s.bT c=(s,bG,false):=by simp[MS.bT,hm,hk]
   rw[e];have HK:Hid _:=hk;clear e gM hm hk;go_enter func76,ntmps76;go_wp2_with fail;refine(uB c false _ HK.o).mono ?_;rintro e w1 ⟨rfl,rfl⟩;go_wp2_with (refine cZ _ rfl (.tmp 4) (.tmp 47) rfl w.heap.size bG bG rfl _ rfl rfl rfl 92 (bJ w _) rfl ?_);intro v1 qo jY DL;have mv:=(h.alloc _).own jY (by omega);have kv:=(k0 _).own jY (bE _) hlt;go_wp2_with fail;exact fE results76 rfl w v1 mb mo _ _ _ rfl rfl rfl qo mv kv
 ·have e:s.bT c=(s,bG,false):=by simp[MS.bT,hm]
  have b0:(s.md==0)=false:=by simp[hm]
  have b1:(s.md==1)=false:=by simp[hm]
  have b2:(s.md==2)=false:=by simp[hm]
  have b3:(s.md==3)=false:=by simp[hm]
  have b4:(s.md==4)=false:=by simp[hm]
  rw[e];clear e gM hm;go_enter func76,ntmps76;go_wp2_with (refine cZ _ rfl (.tmp 4) (.tmp 47) rfl w.heap.size bG bG rfl _ rfl rfl rfl 92 (bJ w _) rfl ?_);intro v1 qo jY DL;have mv:=(h.alloc _).own jY (by omega);have kv:=(k0 _).own jY (bE _) hlt;go_wp2_with fail;exact fE results76 rfl w v1 mb mo _ _ _ rfl rfl rfl qo mv kv
theorem BP(mb mo:Nat)(s:MS)(c:Int)(w:World)(h:iD w mb mo s)(hs:s.ok)(hc0:0≤c)(hc1:c≤10000000):
 Calls prog 40 #[.pointer (some ⟨mb,mo,none⟩),.int .i64 c] w fun e w'=>e= .returned (.tuple #[.agg (aO (s.take c).2.1),.bool (s.take c).2.2])∧iD w' mb mo (s.take c).1∧Km mb mo w w':=by
 have hlt:=h.lt;have k0:∀o,Km mb mo w (w.alloc o):=fun o=>(Km.refl mb mo w).alloc o hlt;have c0:=h.c0;rcases(show c=24∨c=26∨c=27∨(c≠24∧c≠26∧c≠27) by omega)with hv|hv|hv|⟨n1,n2,n3⟩
 ·have e:s.take c=(.zero,bG,false):=by simp[MS.take,hv]
  rw[e];clear e;subst hv;go_enter func40,ntmps40;go_wp2_with (refine jm _ rfl (.tmp 15) (.tmp 14) rfl mb mo _ .zero rfl _ rfl rfl fq (h.alloc _) ?_);intro u1 m1 k1 z1;have uE:u1.heap[w.heap.size]? =some (.cells (aO bG) 92 (0,0)):=(k1.block _ (by simp) (by omega)).trans (bJ _ _);go_wp2_with (refine cZ _ rfl (.tmp 4) (.tmp 44) rfl w.heap.size bG bG rfl _ rfl rfl rfl 92 uE rfl ?_);intro v1 qo jY DL;have mv:=m1.own jY (by omega);have kv:=((k0 _).trans k1).own jY (bE _) hlt;go_wp2_with fail;exact fE results40 rfl w v1 mb mo _ _ _ rfl rfl rfl qo mv kv
 ·have e:s.take c=(.zero,bG,false):=by simp[MS.take,hv]
  rw[e];clear e;subst hv;go_enter func40,ntmps40;go_wp2_with (refine jm _ rfl (.tmp 15) (.tmp 14) rfl mb mo _ .zero rfl _ rfl rfl fq (h.alloc _) ?_);intro u1 m1 k1 z1;have uE:u1.heap[w.heap.size]? =some (.cells (aO bG) 92 (0,0)):=(k1.block _ (by simp) (by omega)).trans (bJ _ _);go_wp2_with (refine cZ _ rfl (.tmp 4) (.tmp 44) rfl w.heap.size bG bG rfl _ rfl rfl rfl 92 uE rfl ?_);intro v1 qo jY DL;have mv:=m1.own jY (by omega);have kv:=((k0 _).trans k1).own jY (bE _) hlt;go_wp2_with fail;exact fE results40 rfl w v1 mb mo _ _ _ rfl rfl rfl qo mv kv
 ·have e:s.take c=(⟨1,0,0,z16⟩,bG,false):=by simp[MS.take,hv]
  rw[e];clear e;subst hv;go_enter func40,ntmps40;go_wp2_with (refine jm _ rfl (.tmp 21) (.tmp 20) rfl mb mo _ ⟨1,0,0,z16⟩ rfl _ rfl rfl fq (h.alloc _) ?_);intro u1 m1 k1 z1;have uE:u1.heap[w.heap.size]? =some (.cells (aO bG) 92 (0,0)):=(k1.block _ (by simp) (by omega)).trans (bJ _ _);go_wp2_with (refine cZ _ rfl (.tmp 4) (.tmp 44) rfl w.heap.size bG bG rfl _ rfl rfl rfl 92 uE rfl ?_);intro v1 qo jY DL;have mv:=m1.own jY (by omega);have kv:=((k0 _).trans k1).own jY (bE _) hlt;go_wp2_with fail;exact fE results40 rfl w v1 mb mo _ _ _ rfl rfl rfl qo mv kv
 ·have d1:(c==24)=false:=by simp[n1]
  have d2:(c==26)=false:=by simp[n2]
  have d3:(c==27)=false:=by simp[n3]
  by_cases hm:s.md=5
  ·have e:s.take c=(s.skip c,bG,false):=by simp[MS.take,n1,n2,n3,hm]
   have b5:(s.md==5)=true:=by simp[hm]
   rw[e];clear e hm n1 n2 n3;go_enter func40,ntmps40;go_wp2_with fail;refine(Mi mb mo s c _ (h.alloc _)).mono ?_;rintro e u1 ⟨rfl,m1,k1⟩;have uE:u1.heap[w.heap.size]? =some (.cells (aO bG) 92 (0,0)):=(k1.block _ (by simp) (by omega)).trans (bJ _ _);go_wp2_with (refine cZ _ rfl (.tmp 4) (.tmp 44) rfl w.heap.size bG bG rfl _ rfl rfl rfl 92 uE rfl ?_);intro v1 qo jY DL;have mv:=m1.own jY (by omega);have kv:=((k0 _).trans k1).own jY (bE _) hlt;go_wp2_with fail;exact fE results40 rfl w v1 mb mo _ _ _ rfl rfl rfl qo mv kv
  ·have b5:(s.md==5)=false:=by simp[hm]
   by_cases h32:c<32
   ·have e:s.take c=(s,[2,c,0,0,0]++z16,true):=by simp[MS.take,n1,n2,n3,hm,h32]
    rw[e];clear e hm n1 n2 n3;go_enter func40,ntmps40;go_wp2_with (refine cZ _ rfl (.tmp 4) (.tmp 35) rfl w.heap.size bG ([2,c,0,0,0]++z16) rfl _ rfl rfl rfl 92 (bJ w _) rfl ?_);intro v1 qo jY DL;have mv:=(h.alloc _).own jY (by omega);have kv:=(k0 _).own jY (bE _) hlt;go_wp2_with fail;exact fE results40 rfl w v1 mb mo _ _ _ rfl rfl rfl qo mv kv
   ·by_cases h127:c=127
    ·have e:s.take c=(s,bG,false):=by simp[MS.take,hm,h127]
     rw[e];clear e hm n1 n2 n3 d1 d2 d3;subst h127;go_enter func40,ntmps40;go_wp2_with (refine cZ _ rfl (.tmp 4) (.tmp 44) rfl w.heap.size bG bG rfl _ rfl rfl rfl 92 (bJ w _) rfl ?_);intro v1 qo jY DL;have mv:=(h.alloc _).own jY (by omega);have kv:=(k0 _).own jY (bE _) hlt;go_wp2_with fail;exact fE results40 rfl w v1 mb mo _ _ _ rfl rfl rfl qo mv kv
    ·have e:s.take c=s.bT c:=by simp[MS.take,n1,n2,n3,hm,h32,h127]
     have gM:=rF hs.len c;have d4:(c != 127)=true:=by simp[h127]
     rw[e];clear e hm n1 n2 n3 h127;obtain⟨⟨S,EV,B⟩,hS⟩:∃x,s.bT c=x:=⟨_,rfl⟩;have HS:Hid _:=hS;rw[hS]at gM;rw[hS];clear hS;dsimp only at gM ⊢;go_enter func40,ntmps40;go_wp2_with fail;refine(Dv mb mo s c _ (h.alloc _) hs (by omega) hc1).mono ?_;rw[HS.o];rintro e u1 ⟨rfl,m1,k1⟩;dsimp only at m1 ⊢;have uE:u1.heap[w.heap.size]? =some (.cells (aO bG) 92 (0,0)):=(k1.block _ (by simp) (by omega)).trans (bJ _ _);go_wp2_with (refine cZ _ rfl (.tmp 4) (.tmp 42) rfl w.heap.size bG EV rfl _ rfl rfl gM 92 uE rfl ?_);intro v1 qo jY DL;have mv:=m1.own jY (by omega);have kv:=((k0 _).trans k1).own jY (bE _) hlt;go_wp2_with fail;exact fE results40 rfl w v1 mb mo _ _ _ gM rfl rfl qo mv kv
theorem rq{e:TypeId}{xs:List Value}(h:w.ownsRow base e 1 v n xs):
 ∃ao cap,v= .slice ao n cap∧∀j x,xs[j]? =some x→∃g,ao=some ⟨g,0,none⟩∧w.cell? ⟨g,j,none⟩=some x:=by
 obtain⟨h1,h2⟩:=h;rcases h2 with⟨rfl,h0⟩|⟨g,cap,cur,rfl,_,hg,hn,_,hcs,htake⟩
 ·refine⟨none,0,by rw[h0],fun j x hj=>?_⟩;have:xs=[]:=Jm (by rw[h1,h0]);subst this;simp at hj
 ·refine⟨_,cap,rfl,fun j x hj=>⟨g,rfl,?_⟩⟩;rw[dJ _ _ _ _ _ _ hg];rw[←htake,qA]at hj;split at hj
  ·simpa using hj
  ·cases hj
structure uh (w:World) (bb:Nat) (vi vm:Value) (I:List Value) (M:List Int) (E:List (Value × Int)) (nx:Int):Prop where
 c0:w.cell? ⟨bb,0,none⟩=some vi
 c1:w.cell? ⟨bb,1,none⟩=some vm
 c2:w.cell? ⟨bb,2,none⟩=some (.slice none 0 0)
 c3:w.cell? ⟨bb,3,none⟩=some (.slice none 0 0)
 c4:w.cell? ⟨bb,4,none⟩=some (.slice none 0 0)
 c5:w.cell? ⟨bb,5,none⟩=some (.slice none 0 0)
 c6:w.cell? ⟨bb,6,none⟩=some (.int .i64 nx)
 f:∀j,j<7→w.frozen? ⟨bb,j,none⟩=false
 oi:w.ownsRow (bb+1) 68 1 vi I.length I
 om:eu w (bb+1) vm M
 ent:∀x∈E,Apart x.1 vm∧∃p,p≤1000000000∧eu w (bb+1) x.1 (List.replicate p x.2)
theorem uh.below(h:uh w bb vi vm I M E nx)(hb:Below w.heap.size w w'):uh w' bb vi vm I M E nx:=by
 have hlt:bb<w.heap.size:=DV _ _ h.c0;have hg:w.grownBy w' none:=⟨hb.os,hb.tape,hb.output,hb.size,fun k hk _=>hb.block k hk⟩;have hr:∀{base e size v n xs},w.ownsRow base e size v n xs→w'.ownsRow base e size v n xs:=fun{_ _ _ v _ _} h=>h.kept hg (by cases hv:v.ownBlock<;>simp)
 refine⟨(hb.cell hlt).trans h.c0,(hb.cell hlt).trans h.c1,(hb.cell hlt).trans h.c2,(hb.cell hlt).trans h.c3,(hb.cell hlt).trans h.c4,(hb.cell hlt).trans h.c5,(hb.cell hlt).trans h.c6,
  fun j hj=>(hb.frozen hlt).trans (h.f j hj),hr h.oi,hr h.om,fun x hx=>?_⟩
 obtain⟨a,p,hp,hl⟩:=h.ent x hx;exact⟨a,p,hp,hr hl⟩
theorem Apart.symm(h:Apart u v):Apart v u:=by
 unfold Apart at*;cases hv:v.ownBlock with
 |none=>exact Or.inl rfl
 |some k=>
  rcases h with h|h
  ·right;rw[h];simp
  ·right;rw[hv]at h;exact fun e=>h e.symm
theorem Apart.later{z:Value}(h:v.ownBlock=u.ownBlock∨∃k,v.ownBlock=some k∧n≤k)(ha:Apart u z)(hz:∀k,z.ownBlock=some k→k<n):Apart v z:=by
 unfold Apart at*;rcases h with h|⟨k,h,hk⟩
 ·rw[h];exact ha
 ·right;rw[h];intro e;have:=hz k e.symm;omega
theorem LX(p:Nat)(m:Int):nZ p [.int .i64 m]=(List.replicate p m).map (Value.int .i64):=by
 induction p with
 |zero=>rfl
 |succ p ih=>unfold nZ at ih ⊢;rw[Jq,List.flatten_cons,ih,Jq,List.map_cons];rfl
theorem eu.nZ:eu w base v (List.replicate p m)↔w.ownsRow base 3 1 v p (nZ p [.int .i64 m]):=by unfold eu;rw[LX,Av]
theorem uh.grown(h:uh w bb vi vm I M E nx){row:Option Nat}(hg:w.grownBy w' row)(hbb:some bb≠row)(hi:vi.ownBlock=none∨vi.ownBlock≠row)(hm:vm.ownBlock=none∨vm.ownBlock≠row)(hE:∀x∈E,x.1.ownBlock=none∨x.1.ownBlock≠row):uh w' bb vi vm I M E nx:=by
 have hlt:bb<w.heap.size:=DV _ _ h.c0;have hbk:=hg.block bb hlt hbb
 refine⟨(eT hbk).trans h.c0,(eT hbk).trans h.c1,(eT hbk).trans h.c2,(eT hbk).trans h.c3,(eT hbk).trans h.c4,(eT hbk).trans h.c5,(eT hbk).trans h.c6,
  fun j hj=>(DT hbk).trans (h.f j hj),h.oi.kept hg hi,Jn h.om hg hm,fun x hx=>?_⟩
 obtain⟨a,p,hp,hl⟩:=h.ent x hx;exact⟨a,p,hp,Jn hl hg (hE x hx)⟩
structure Fr (S:Nat→Prop) (w w':World):Prop where
 os:w'.os=w.os
 tape:w'.tape=w.tape
 output:w'.output=w.output
 size:w.heap.size≤w'.heap.size
 block:∀g,g<w.heap.size→¬S g→w'.heap[g]? =w.heap[g]?
theorem Fr.trans{a b c:World}(h:Fr S a b)(k:Fr S b c):Fr S a c:=
 ⟨k.os.trans h.os,k.tape.trans h.tape,k.output.trans h.output,fA h.size k.size,fun g hg hs=>(k.block g (aH hg h.size) hs).trans (h.block g hg hs)⟩
theorem Fr.grown{row:Option Nat}(h:w.grownBy w' row)(hs:∀g,some g=row→S g):Fr S w w':=
 ⟨h.os,h.tape,h.output,h.size,fun g hg hn=>h.block g hg (fun e=>hn (hs g e))⟩
theorem Fr.set{o:Nat}{x:Value}(hs:S b):Fr S w (w.setCell ⟨b,o,none⟩ x):=
 ⟨rfl,rfl,rfl,by simp[World.setCell],fun g _ hn=>yn _ _ _ _ (fun e=>hn (e▸hs))⟩
theorem Fr.below(h:Fr S w w')(hB:B≤w.heap.size)(hs:∀g,g<B→¬S g):Below B w w':=
 ⟨h.os,h.tape,h.output,h.size,fun k hk=>h.block k (by omega) (hs k hk)⟩
theorem Hg(w:World)(a b:Addr)(x:Value):(w.setCell a x).frozen? b=w.frozen? b:=by simp
theorem uh.FK(h:uh w bb vi vm I M E nx)(m:Int):uh (w.setCell ⟨bb,6,none⟩ (.int .i64 m)) bb vi vm I M E m:=by
 have o:∀j x,j≠6→w.cell? ⟨bb,j,none⟩=some x→(w.setCell ⟨bb,6,none⟩ (.int .i64 m)).cell? ⟨bb,j,none⟩=some x:=fun j x hj hx=>(bA w bb 6 j _ (by omega)).trans hx
 refine⟨o 0 _ (by omega) h.c0,o 1 _ (by omega) h.c1,o 2 _ (by omega) h.c2,o 3 _ (by omega) h.c3,o 4 _ (by omega) h.c4,o 5 _ (by omega) h.c5,AL _ _ _ h.c6,
  fun j hj=>(Hg _ _ _ _).trans (h.f j hj),ownsRow_setCell_below h.oi (by simp) _,ownsRow_setCell_below h.om (by simp) _,fun x hx=>?_⟩
 obtain⟨a,p,hp,hl⟩:=h.ent x hx;exact⟨a,p,hp,ownsRow_setCell_below hl (by simp) _⟩
theorem eu.slice(h:eu w b v (List.replicate p m)):∃a c,v= .slice a p c:=by obtain⟨a,c,e,_⟩:=rq h;exact⟨a,c,by simpa using e⟩
def bl (s:ByteArray):List Int:=s.data.toList.map fun c=>(c.toNat:Int)
theorem oG(s:ByteArray):(bl s).length=s.size:=by simp[bl]
theorem QM(s:ByteArray)(k:Nat)(h:k<s.size):(bl s).take (k+1)=(bl s).take k++[((s[k]'h).toNat:Int)]:=by rw[yh (by rw[oG];exact h)];simp[bl];rfl
theorem TD(s:ByteArray):(bl s).take s.size=bl s:=sG (by rw[oG];exact bE _)
theorem eu.mono{B':Nat}{L:List Int}(h:eu w B v L)(hB:B'≤B):eu w B' v L:=by
 obtain⟨h1,h2⟩:=h;refine⟨h1,?_⟩;rcases h2 with h2|⟨g,cap,cur,hv,hg,r⟩
 ·exact Or.inl h2
 ·exact Or.inr ⟨g,cap,cur,hv,fA hB hg,r⟩
theorem jK.lt{w:World}(h:jK w):0<w.heap.size:=by obtain⟨t,fr,h⟩:=h;exact(kP.1 h).1
def rH (c:Int):List Int:=
 if c<128 then[c]else if c<2048 then[192+c / 64,128+c % 64]else if c<65536 then[224+c / 4096,128+c / 64 % 64,128+c % 64]
 else[240+c / 262144,128+c / 4096 % 64,128+c / 64 % 64,128+c % 64]
theorem MN(c:Int)(h0:0≤c)(h1:c<1114112):∀x∈rH c,0≤x∧x<256:=by
 unfold rH;intro x hx
 repeat' split at hx
 all_goals simp at hx
 ·omega
 ·rcases hx with rfl|rfl<;>omega
 ·rcases hx with rfl|rfl|rfl<;>omega
 ·rcases hx with rfl|rfl|rfl|rfl<;>omega
theorem Gf(c:Int):(rH c).length≤4:=by
 unfold rH
 repeat' split
 all_goals simp
structure Goes (s:RS) (rest:List Int) (c:Int) (j:Nat) (wh:Bool):Prop where
 yes:wh=true→j≤rest.length∧s.run rest=((RS.zero.run (rest.drop j)).1,c::(RS.zero.run (rest.drop j)).2)
 no:wh=false→j=rest.length∧c=65533∧(s.run rest).2=[]∧(s.run rest).1.m≠0

theorem nJ(s:ByteArray):∀b∈bl s,0≤b∧b<256:=by intro b hb;obtain⟨c,_,rfl⟩:=List.mem_map.1 hb;have:=UInt8.toNat_lt c;omega

theorem NY{b:Int}(h0:0≤b)(h1:b<256):∀c∈(s.sw b).2,0≤c∧c≤10000000:=by
 intro c hc;unfold RS.sw at hc;split at hc
 ·simp at hc;omega
 ·split at hc
  ·simp at hc
  ·simp at hc;omega
theorem Dw{b:Int}(hs:s.ok)(h0:0≤b)(h1:b<256):∀c∈(s.take b).2,0≤c∧c≤10000000:=by
 intro c hc;unfold RS.take at hc;split at hc
 ·exact NY h0 h1 c hc
 ·split at hc
  ·rcases oq.1 hc with hc|hc
   ·unfold RS.fin at hc;split at hc
    ·simp at hc
    ·simp at hc;omega
   ·exact NY h0 h1 c hc
  ·unfold RS.join at hc;split at hc
   ·have:=hs.v0;have:=hs.v1 ‹_›;simp at hc;omega
   ·simp at hc
def MS.evs (s:MS):List Int→MS × List (List Int)
 | []=>(s,[])
 |c::r=>((MS.evs (s.take c).1 r).1,(if(s.take c).2.2 then[(s.take c).2.1]else[])++(MS.evs (s.take c).1 r).2)
theorem Uf{s:MS}(h:s.ok)(l:List Int)(hl:∀c∈l,0≤c∧c≤10000000):(s.evs l).1.ok∧(∀e∈(s.evs l).2,e.length=21)∧(s.evs l).2.length≤l.length:=by
 induction l generalizing s with
 |nil=>exact⟨h,fun e he=>by simp[MS.evs]at he,by simp[MS.evs]⟩
 |cons c l ih=>
  have hc:=hl c (by simp);obtain⟨a1,a2,a3⟩:=ih (h.take hc.1 hc.2) (fun x hx=>hl x (by simp[hx]));refine⟨a1,fun e he=>?_,?_⟩
  ·simp only[MS.evs]at he;rcases oq.1 he with he|he
   ·split at he
    ·simp at he;rw[he];exact wL h.len c
    ·simp at he
   ·exact a2 e he
  ·simp only[MS.evs,lQ,fB];split
   ·simp;omega
   ·simp;omega
theorem jX(xs:Array Value)(off:Nat)(x:Int)(h:xs[off]? =some (.int .i64 x))(w:World):(part 3 xs off).run prog w= .ok (.int .i64 x) w:=by
 have hz:(isAgg 3).run prog w= .ok false w:=by kernel_rfl
 simp[part,hz,h]
theorem sV(xs:Array Value)(off:Nat)(x:Bool)(h:xs[off]? =some (.bool x))(w:World):(part 4 xs off).run prog w= .ok (.bool x) w:=by
 have hz:(isAgg 4).run prog w= .ok false w:=by kernel_rfl
 simp[part,hz,h]
theorem CR(xs:Array Value)(off:Nat)(w:World):(part 102 xs off).run prog w= .ok (.agg (xs.extract off (off+5))) w:=by
 have hz:(isAgg 102).run prog w= .ok true w:=by kernel_rfl
 have hs:(sizeOf 102).run prog w= .ok 5 w:=by kernel_rfl
 simp only[part,kN,hz,kM,if_true,hs,qg]
theorem rP(d:Nat)(xs ys:Array Value)(w:World):∀(fs:List Field) (L:List (TypeId × Nat × Bool)),(∀f∈fs,f.name≠ "_")→fs.map (fun f=>(f.type,f.offset))=L.map (fun x=>(x.1,x.2.1))→
 (∀x∈L,∃a b,(part x.1 xs x.2.1).run prog w= .ok a w∧(part x.1 ys x.2.1).run prog w= .ok b w∧(Op.equalIn d x.1 a b).run prog w= .ok x.2.2 w)→(Op.eqFields d xs ys fs).run prog w= .ok (L.all (·.2.2)) w
 | [],[],_,_,_=>by simp[Op.eqFields]
 | [],_::_,_,h,_=>by simp at h
 |_::_,[],_,h,_=>by simp at h
 |f::fs,x::L,hn,h,hx=>by
  simp only[List.map_cons,List.cons.injEq,Prod.mk.injEq]at h;obtain⟨⟨h1,h2⟩,h3⟩:=h;obtain⟨a,b,e1,e2,e3⟩:=hx x (by simp);have ih:=rP d xs ys w fs L (fun g hg=>hn g (by simp[hg])) h3 (fun y hy=>hx y (by simp[hy]));rw[←h1, ←h2]at e1 e2;rw[←h1]at e3;have hf:f.name≠ "_" :=hn f (by simp);simp only[Op.eqFields,kN,Sem.run_ite,e1,e2,e3,kM,List.all_cons];rw[aS (by simpa using hf)];cases x.2.2
  ·simp
  ·simpa using ih
theorem Ya(d:Nat)(x y:Bool)(w:World):(Op.equalIn (d+1) 4 (.bool x) (.bool y)).run prog w= .ok (x==y) w:=by simp[Op.equalIn,run_underlying underlying4]
theorem QX(d:Nat)(x y:Int)(w:World):(Op.equalIn (d+1) 3 (.int .i64 x) (.int .i64 y)).run prog w= .ok (x==y) w:=by rw[run_equalIn_int w d 3 .i64 .i64 x y underlying3]
theorem eqP(d:Nat)(p q:fO)(w:World):(Op.equalIn (d+2) 102 (.agg (gI p)) (.agg (gI q))).run prog w= .ok (decide (p=q)) w:=by
 have hu:prog.underlying 102=some (.struct (prog.fieldsOf 102)):=by kernel_rfl
 have hp:prog.stoodInHeld 102=false:=by kernel_rfl
 rw[run_equalIn_struct w (d+1) 102 _ _ hu hp];rw[rP (d+1) _ _ w _ [(4,0,p.b==q.b),(4,1,p.u==q.u),(4,2,p.t==q.t),(3,3,p.f==q.f),(3,4,p.k==q.k)] (nG (by kernel_rfl)) (by kernel_rfl) ?_]
 ·refine congrArg (fun z=>Result.ok z w) ?_;obtain⟨b,u,t,f,k⟩:=p;obtain⟨b',u',t',f',k'⟩:=q;simp only[List.all_cons,List.all_nil,fO.mk.injEq,Bool.and_true];rw[Bool.eq_iff_iff];simp
 ·intro x hx;simp only[di,eU,eX]at hx;rcases hx with rfl|rfl|rfl|rfl|rfl
  ·exact⟨_,_,sV _ 0 p.b rfl w,sV _ 0 q.b rfl w,Ya _ _ _ w⟩
  ·exact⟨_,_,sV _ 1 p.u rfl w,sV _ 1 q.u rfl w,Ya _ _ _ w⟩
  ·exact⟨_,_,sV _ 2 p.t rfl w,sV _ 2 q.t rfl w,Ya _ _ _ w⟩
  ·exact⟨_,_,jX _ 3 p.f rfl w,jX _ 3 q.f rfl w,QX _ _ _ w⟩
  ·exact⟨_,_,jX _ 4 p.k rfl w,jX _ 4 q.k rfl w,QX _ _ _ w⟩
theorem eqC(c e:aC)(w:World):(Op.equalIn 10000 104 (.agg (bO c)) (.agg (bO e))).run prog w= .ok (decide (c=e)) w:=by
 have hu:prog.underlying 104=some (.struct (prog.fieldsOf 104)):=by kernel_rfl
 have hp:prog.stoodInHeld 104=false:=by kernel_rfl
 rw[run_equalIn_struct w 9999 104 _ _ hu hp];rw[rP 9999 _ _ w _ [(3,0,c.r==e.r),(102,1,decide (c.p=e.p)),(3,6,c.part==e.part)] (nG (by kernel_rfl)) (by kernel_rfl) ?_]
 ·refine congrArg (fun z=>Result.ok z w) ?_;obtain⟨r,p,t⟩:=c;obtain⟨r',p',t'⟩:=e;simp only[List.all_cons,List.all_nil,aC.mk.injEq,Bool.and_true];rw[Bool.eq_iff_iff];simp
 ·intro x hx;simp only[di,eU,eX]at hx;rcases hx with rfl|rfl|rfl
  ·exact⟨_,_,jX _ 0 c.r rfl w,jX _ 0 e.r rfl w,QX _ _ _ w⟩
  ·refine⟨_,_,CR _ 1 w,CR _ 1 w,?_⟩;exact eqP 9997 c.p e.p w
  ·exact⟨_,_,jX _ 6 c.part rfl w,jX _ 6 e.part rfl w,QX _ _ _ w⟩
theorem abZ(c d:aC)(w:World):(binOp .eql 104 (.agg (bO c)) (.agg (bO d))).run prog w= .ok (.bool (decide (c=d))) w:=by rw[run_eql_struct,eqC];rfl
theorem acP(c d:aC)(w:World):(binOp .neq 104 (.agg (bO c)) (.agg (bO d))).run prog w= .ok (.bool (!decide (c=d))) w:=by rw[run_neq_struct,eqC];rfl
theorem Bq{fn:Func}{p:Tmp}(h:fn.results= #[.cell p 104])(tmps:Array Value)(w:World)(g:Nat)(c:aC)(t:TypeId)(fr:Nat × Nat)(hp:tmps.getD p undef= .pointer (some ⟨g,0,none⟩))(hg:w.heap[g]? =some (.cells (bO c) t fr)):
 (results fn tmps).run prog w= .ok (.agg (bO c)) w:=
 results_cell_row h tmps w g t (bO c) fr _ hp hg underlying104 rfl (by rw[pI];exact eF)
theorem j5(w:World):Calls prog 141 #[] w fun e w'=>e= .returned (.agg (bO aQ))∧Below w.heap.size w w':=by go_enter func141,ntmps141;go_wp2;exact gL (Bq results141 _ _ w.heap.size aQ 104 (0,0) rfl (bJ _ _)) rfl ⟨rfl,(dF _ _).alloc (bE _) _⟩
theorem F7(c:aC)(w:World):Calls prog 167 #[.agg (bO c)] w fun e w'=>e= .returned (.agg (bO (lN c)))∧Below w.heap.size w w':=by
 change Calls prog 167 #[.agg #[.int .i64 c.r,.bool c.p.b,.bool c.p.u,.bool c.p.t,.int .i64 c.p.f,.int .i64 c.p.k,.int .i64 c.part]] w _;go_enter func167,ntmps167;go_wp2;refine gL (Bq results167 _ _ (w.heap.size+1) (lN c) 104 (0,0) (by simp) ?_) rfl ⟨rfl,?_⟩
 ·have hs:(w.alloc (.cells #[.int .i64 c.r,.bool c.p.b,.bool c.p.u,.bool c.p.t,.int .i64 c.p.f,.int .i64 c.p.k,.int .i64 c.part] 104)).heap.size=w.heap.size+1:=by simp
  rw[←hs];exact bJ _ _
 ·exact((dF _ _).alloc (bE _) _).alloc (by simp) _
theorem Qi(r:List aC)(a k:Nat)(h:a+k<r.length):(gQ r a k).set (a+k) aQ=gQ r a (k+1):=by
 unfold gQ;have h1:(r.take a).length=a:=by rw[jJ];omega
 rw[M_ _ _ (by omega),h1,M_ _ _ (by simp),Av,show a+k-a-k=0 by omega, ←List.getElem_cons_drop h,nE,List.replicate_succ',sF];rfl
theorem MQ(r:List aC)(a:Nat):gQ r a 0=r:=by simp[gQ]
theorem jT(g off a n cap:Nat)(r:List aC)(w:World)(hoff:off=a*7)(hr:aK w g r)(han:a+n≤r.length)(hrl:r.length≤100):
 Calls prog 160 #[.slice (some ⟨g,off,none⟩) n cap] w fun e w'=>e= .returned (.tuple #[])∧aK w' g (gQ r a n)∧Ch (· =g) w w':=by
 subst hoff;go_enter func160,ntmps160;go_wp2_with fail;go_loopw [5] (fun i wr=>∃k:Nat,k≤n∧i= .int .i64 k∧aK wr g (gQ r a k)∧Ch (· =g) w wr) (fun i _=>n-(intOf i).toNat)
 case atStart=>exact⟨0,jy _,rfl,by rw[MQ];exact hr,Ch.refl _ _⟩
 case round=>
  obtain⟨k,hk,rfl,lU,hch⟩:=hrel;by_cases hlt:k<n
  ·have ik:(k:Int)<(n:Int):=by omega
   have hl:(gQ r a k).length=r.length:=lZ r a k (by omega);have HR:Hid (aK wr g (gQ r a k)):=lU;have HC:Hid _:=hch;have HL:Hid _:=hl;clear lU hch hl;go_wp2_with (first|(go_at_call 141;refine(j5 _).mono ?_;rintro e w1 ⟨rfl,b1⟩)|(refine pq _ rfl (.tmp 11) (.tmp 10) rfl g (a*7+k*7) (a+k) (gQ r a k) aQ rfl (by omega) (bO aQ) rfl rfl (HR.o.kept (b1.block g HR.o.lt)) (by rw[HL.o];omega) ?_));intro u' hu cu su;rw[Qi _ _ _ (by omega)]at hu;have C2:Ch (· =g) w u':=(HC.o.trans (Ch.of_below b1)).trans cu;clear HR HC HL cu su b1;go_wp2_with fail;go_roundw
   case rel=>exact⟨k+1,by omega,by go_num,hu,C2⟩
   case measure=>simp[intOf];omega
  ·have hkn:k=n:=by omega
   subst hkn;go_wp2_with fail;go_end0;exact⟨rfl,lU,hch⟩
end Go.Proofs.YtheibfffilomcabGreatDoor
