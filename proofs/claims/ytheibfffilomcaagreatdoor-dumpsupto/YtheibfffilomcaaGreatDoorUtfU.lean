import Derived.Test.YtheibfffilomcaaGreatDoorTmaU
import Derived.Test.YtheibfffilomcaaGreatDoorMwcU
import Derived.Deep.QuietTactic
import Derived.BigQuiet
set_option linter.all false
set_option maxRecDepth 100000
set_option maxHeartbeats 1000000
namespace Go.Proofs.YtheibfffilomcaaGreatDoor
open Go.RowKit Go.Proofs.Tryz
variable {w w':World} {v vi vm u:Value} {b m lo hi nx:Int} {S:Nat→Prop} {s:MS} {a:Act} {base n bb p B:Nat} {I:List Value} {M:List Int} {E:List (Value × Int)}
theorem jc{fn:Func}{p q:Tmp}(hres:fn.results= #[.cell p 46,.tmp q])(hd:a.defers=[])(w u:World)(mb mo:Nat)(s':MS)(ev:List Int)(b:Bool)(hev:ev.length=21)(hp:a.tmps.getD p undef= .pointer (some ⟨w.heap.size,0,none⟩))(hq:a.tmps.getD q undef= .bool b)(hg:u.heap[w.heap.size]? =some (.cells (aA ev) 46 (0,0)))(hm:kS u mb mo s')(hk:Km mb mo w u):
 bodyPost prog fn (fun e w'=>e= .returned (.tuple #[.agg (aA ev),.bool b])∧kS w' mb mo s'∧Km mb mo w w') .ret a u:=
 bX (Kr hres a.tmps u w.heap.size ev hev 46 (0,0) hp hg) hd ⟨by rw[hq],hm,hk⟩
theorem Ak(h:s.ps.length=16)(c:Int):(s.dJ c).2.1.length=21:=by
 unfold MS.dJ
 repeat' split
 all_goals first|rfl|simp[MS.nA,h]
theorem II(s:MS)(c:Int):(s.eZ c).2.1.length=21:=by
 unfold MS.eZ
 repeat' split
 all_goals rfl
theorem vC(h:s.ps.length=16)(c:Int):(s.dm c).2.1.length=21:=by
 unfold MS.dm
 repeat' split
 all_goals first|rfl|exact II s c|exact Ak h c|exact Ak (s:=⟨3,s.mr,s.ct,s.ps⟩) h c
theorem Ec(h:s.ps.length=16)(c:Int):(s.take c).2.1.length=21:=by
 unfold MS.take
 repeat' split
 all_goals first|rfl|exact vC h c
theorem yO(mb mo:Nat)(s:MS)(c:Int)(w:World)(h:kS w mb mo s)(hs:s.ok)(hc0:0≤c)(hc1:c≤10000000)(h1:1≤s.ct):
 Calls prog 96 #[.pointer (some ⟨mb,mo,none⟩),.int .i64 c] w fun e w'=>e= .returned (.tuple #[.agg (aA (s.dJ c).2.1),.bool (s.dJ c).2.2])∧kS w' mb mo (s.dJ c).1∧Km mb mo w w':=by
 have hlt:=h.lt;have k0:∀o,Km mb mo w (w.alloc o):=fun o=>(Km.refl mb mo w).alloc o hlt;by_cases hd:48≤c∧c≤57
 ·obtain⟨hd0,hd1⟩:=hd;have e:s.dJ c=(s.jF (c-48),aO,false):=by simp[MS.dJ,hd0,hd1]
  rw[e];clear e;go_enter func96,ntmps96;go_wp2_with fail;refine(EY mb mo s (c-48) _ (h.alloc _) hs h1 (by omega) (by omega)).mono ?_;rintro e u1 ⟨rfl,Va,Q8⟩;have yo:u1.heap[w.heap.size]? =some (.cells (aA aO) 46 (0,0)):=(Q8.block _ (by simp) (by omega)).trans (bV _ _);go_wp2_with (refine b_ _ rfl (.tmp 4) (.tmp 36) rfl w.heap.size aO aO rfl _ rfl ?q1 rfl 46 yo rfl ?_)
  case q1=>rfl
  intro u2 FT DZ zu2;have mu2:=Va.own DZ (by omega);have ku2:=((k0 _).trans Q8).own DZ (bN _) hlt;go_wp2_with fail;exact jc results96 rfl w u2 mb mo _ _ _ rfl rfl rfl FT (mu2) (ku2)
 ·have hdd:(decide (48≤c)&&decide (c≤57))=false:=by
   by_cases a:48≤c
   ·have:¬c≤57:=fun b=>hd ⟨a,b⟩;simp[this]
   ·simp[a]
  have hnd:c<48∨57<c:=by omega
  by_cases h59:c=59
  ·have e:s.dJ c=(s.jm,aO,false):=by simp[MS.dJ,h59]
   rw[e];clear e hd hdd hnd;subst h59;go_enter func96,ntmps96;go_wp2_with fail;refine(Ab mb mo s _ (h.alloc _) hs.c0 hs.c1).mono ?_;rintro e u1 ⟨rfl,Va,Q8⟩;have yo:u1.heap[w.heap.size]? =some (.cells (aA aO) 46 (0,0)):=(Q8.block _ (by simp) (by omega)).trans (bV _ _);go_wp2_with (refine b_ _ rfl (.tmp 4) (.tmp 36) rfl w.heap.size aO aO rfl _ rfl ?q2 rfl 46 yo rfl ?_)
   case q2=>rfl
   intro u2 FT DZ zu2;have mu2:=Va.own DZ (by omega);have ku2:=((k0 _).trans Q8).own DZ (bN _) hlt;go_wp2_with fail;exact jc results96 rfl w u2 mb mo _ _ _ rfl rfl rfl FT (mu2) (ku2)
  ·have b59:(c==59)=false:=by simp[h59]
   cases hf:fe c with
   |true=>
    have e:s.dJ c=(.zero,s.nA c,true):=by unfold MS.dJ;rw[ai hd,ai h59,ak hf]
    rw[e];have HF:Hid _:=hf;have gq:(s.nA c).length=21:=by simp[MS.nA,hs.len]
    clear e hd hf h59;rcases hnd with hnd|hnd
    all_goals
     go_enter func96,ntmps96;go_wp2_with fail;refine(ym c true _ HF.o).mono ?_;rintro e w1 ⟨rfl,rfl⟩;go_wp2_with fail;refine(KD mb mo s c _ (h.alloc _) hs h1).mono ?_;rintro e u1 ⟨rfl,b1⟩;have hz1:w.heap.size<u1.heap.size:=by have:=b1.size;simp at this;omega
     have m1:kS u1 mb mo s:=(h.alloc _).kept (b1.block mb (by simp;omega));have g1:u1.heap[w.heap.size]? =some (.cells (aA aO) 46 (0,0)):=(b1.block w.heap.size (by simp)).trans (bV _ _);have k1:Km mb mo w u1:=(k0 _).trans (Km.of_below b1 (by simp;omega));clear b1;go_wp2_with (refine b_ _ rfl (.tmp 6) (.tmp 31) rfl u1.heap.size aO (s.nA c) rfl _ rfl rfl gq 46 (bV u1 _) rfl ?_);intro u2 FT DZ zu2;have m2:=(m1.alloc _).own DZ (by omega);have g2:=(DZ.block w.heap.size (by simp;omega) (by simp;omega)).trans ((gK u1 _ _ hz1).trans g1);have k2:=(k1.alloc _ hlt).own DZ (by omega) hlt;have hz2:u1.heap.size<u2.heap.size:=by have:=DZ.size;simp at this;omega
     clear m1 g1 k1 DZ;go_wp2_with (refine mV _ rfl (.tmp 34) (.tmp 33) rfl mb mo s .zero rfl _ rfl rfl jb m2 ?_);intro u3 m3 k3 z3;have g3:=(k3.block w.heap.size (by omega) (by omega)).trans g2;have ge3:=(k3.block u1.heap.size (by omega) (by omega)).trans FT;have kk3:=k2.trans k3;clear m2 g2 k2 k3 FT;go_wp2_with (first|(refine fA _ rfl (.tmp 6) rfl u1.heap.size (s.nA c) rfl gq 46 (0,0) ge3 ?_)|(refine b_ _ rfl (.tmp 4) (.tmp 35) rfl w.heap.size aO (s.nA c) rfl _ rfl rfl gq 46 g3 rfl ?_;intro u4 gu4 ru4 zu4));have mu4:=m3.own (‹World.grownBy u3 _ (some w.heap.size)›) (by omega);have ku4:=kk3.own (‹World.grownBy u3 _ (some w.heap.size)›) (bN _) hlt;exact jc results96 rfl w _ mb mo _ _ _ gq rfl rfl ‹_› mu4 ku4
   |false=>
    have e:s.dJ c=(⟨4,0,0,z16⟩,aO,false):=by unfold MS.dJ;rw[ai hd,ai h59,ai (by simp[hf])]
    rw[e];have HF:Hid _:=hf;clear e hd hf h59;rcases hnd with hnd|hnd
    all_goals
     go_enter func96,ntmps96;go_wp2_with fail;refine(ym c false _ HF.o).mono ?_;rintro e w1 ⟨rfl,rfl⟩;go_wp2_with (refine mV _ rfl (.tmp 9) (.tmp 8) rfl mb mo s ⟨4,0,0,z16⟩ rfl _ rfl rfl jb (h.alloc _) ?_);intro u1 m1 k1 z1;have g1:u1.heap[w.heap.size]? =some (.cells (aA aO) 46 (0,0)):=(k1.block _ (by simp) (by omega)).trans (bV _ _);have kk1:=(k0 _).trans k1;clear k1;go_wp2_with (refine b_ _ rfl (.tmp 4) (.tmp 36) rfl w.heap.size aO aO rfl _ rfl rfl rfl 46 g1 rfl ?_);intro u2 FT DZ zu2;have mu2:=m1.own DZ (by omega);have ku2:=kk1.own DZ (bN _) hlt;go_wp2_with fail;exact jc results96 rfl w u2 mb mo _ _ _ rfl rfl rfl FT mu2 ku2
theorem yT{ops:Array Oper}{rest:List Oper}{o:Oper}{Q:Exit→Act→World→Prop}(u:World)(hgd:o.guard=none)(ty:TypeId)(hsz:(prog.info? ty).map (·.size)=some 1)(x y:Operand)(ho:o.op= .store ty x y)(mb mo j:Nat)(hj:j<19)(s s':MS)(c:Int)(hx:a.eval x= .pointer (some ⟨mb,mo+j,none⟩))(hy:a.eval y= .int .i64 c)(hm:kS u mb mo s)(hm':kS (u.setCell ⟨mb,mo+j,none⟩ (.int .i64 c)) mb mo s')(h:∀u',kS u' mb mo s'→Km mb mo u u'→u'.heap.size=u.heap.size→wpList prog ops Q rest (a.put o.dst undef) u'):wpList prog ops Q (o::rest) a u:=by
 have hc:=hm.at j hj;have hf:=hm.fr j hj;refine oq hgd fun K hK=>?_;have R:=hK _ _ (h _ hm' (Km.set j _ hj) (by simp[World.setCell]));have hs:(sizeOf ty).run prog u= .ok 1 u:=by
  cases hq:prog.info? ty with
  |none=>simp[hq]at hsz
  |some i=>
   have:i.size=1:=by simpa[hq]using hsz
   simp[sizeOf,typeInfo,hq,this]
 unfold Oper.wp execOp;simp only[ho,hx,hy];go_simp;exact R
theorem Wm:(prog.info? 3).map (·.size)=some 1:=by kernel_rfl
theorem RU:(prog.info? 69).map (·.size)=some 1:=by kernel_rfl
theorem uB(w:World)(a b:Obj):((w.alloc a).alloc b).heap[w.heap.size]? =some a∧((w.alloc a).alloc b).heap[w.heap.size+1]? =some b:=by
 have z1:(w.alloc a).heap.size=w.heap.size+1:=by simp
 exact⟨(gK _ b _ (by omega)).trans (bV w a),z1▸bV (w.alloc a) b⟩
theorem FE(mb mo:Nat)(s:MS)(c:Int)(w:World)(h:kS w mb mo s)(hc0:32≤c):
 Calls prog 94 #[.pointer (some ⟨mb,mo,none⟩),.int .i64 c] w fun e w'=>e= .returned (.tuple #[.agg (aA (s.eZ c).2.1),.bool (s.eZ c).2.2])∧kS w' mb mo (s.eZ c).1∧Km mb mo w w':=by
 have hlt:=h.lt;have k0:∀o,Km mb mo w (w.alloc o):=fun o=>(Km.refl mb mo w).alloc o hlt;by_cases h91:c=91
 ·have e:s.eZ c=(MS.jm ⟨2,0,0,z16⟩,aO,false):=by simp[MS.eZ,h91]
  rw[e];clear e;subst h91;go_enter func94,ntmps94;go_wp2_with (refine mV _ rfl (.tmp 15) (.tmp 14) rfl mb mo _ ⟨2,0,0,z16⟩ rfl _ rfl rfl jb (h.alloc _) ?_);intro u1 m1 k1 z1;go_wp2_with fail;refine(Ab mb mo ⟨2,0,0,z16⟩ _ m1 (by decide) (by decide)).mono ?_;rintro e u2 ⟨rfl,m2,k2⟩;have k12:=k1.trans k2;have FT:u2.heap[w.heap.size]? =some (.cells (aA aO) 46 (0,0)):=(k12.block _ (by simp) (by omega)).trans (bV _ _);go_wp2_with (refine b_ _ rfl (.tmp 4) (.tmp 44) rfl w.heap.size aO aO rfl _ rfl rfl rfl 46 FT rfl ?_);intro v1 kU kI yV;have mv:=m2.own kI (by omega);have kv:=((k0 _).trans k12).own kI (bN _) hlt;go_wp2_with fail;exact jc results94 rfl w v1 mb mo _ _ _ rfl rfl rfl kU mv kv
 ·have b91:(c==91)=false:=by simp[h91]
  cases ht:lC c with
  |true=>
   have e:s.eZ c=(⟨5,0,0,z16⟩,aO,false):=by unfold MS.eZ;rw[ai h91,ak ht]
   rw[e];have HT:Hid _:=ht;clear e ht h91;go_enter func94,ntmps94;go_wp2_with fail;refine(Az c true _ HT.o).mono ?_;rintro e w1 ⟨rfl,rfl⟩;go_wp2_with (refine mV _ rfl (.tmp 23) (.tmp 22) rfl mb mo _ ⟨5,0,0,z16⟩ rfl _ rfl rfl jb (h.alloc _) ?_);intro u1 m1 k1 z1;have yo:u1.heap[w.heap.size]? =some (.cells (aA aO) 46 (0,0)):=(k1.block _ (by simp) (by omega)).trans (bV _ _);go_wp2_with (refine b_ _ rfl (.tmp 4) (.tmp 44) rfl w.heap.size aO aO rfl _ rfl rfl rfl 46 yo rfl ?_);intro v1 kU kI yV;have mv:=m1.own kI (by omega);have kv:=((k0 _).trans k1).own kI (bN _) hlt;go_wp2_with fail;exact jc results94 rfl w v1 mb mo _ _ _ rfl rfl rfl kU mv kv
  |false=>
   have HT:Hid _:=ht;by_cases h47:c≤47
   ·have e:s.eZ c=(⟨s.md,c,s.ct,s.ps⟩,aO,false):=by unfold MS.eZ;rw[ai h91,ai (by simp[ht]),ak h47]
    rw[e];clear e ht h91;go_enter func94,ntmps94;go_wp2_with fail;refine(Az c false _ HT.o).mono ?_;rintro e w1 ⟨rfl,rfl⟩;go_wp2_with (refine yT _ rfl 3 Wm (.tmp 30) (.tmp 28) rfl mb mo 1 (by omega) s ⟨s.md,c,s.ct,s.ps⟩ c rfl rfl (h.alloc _) ((h.alloc _).acT c) ?_);intro u1 m1 k1 z1;have yo:u1.heap[w.heap.size]? =some (.cells (aA aO) 46 (0,0)):=(k1.block _ (by simp) (by omega)).trans (bV _ _);go_wp2_with (refine b_ _ rfl (.tmp 4) (.tmp 44) rfl w.heap.size aO aO rfl _ rfl rfl rfl 46 yo rfl ?_);intro v1 kU kI yV;have mv:=m1.own kI (by omega);have kv:=((k0 _).trans k1).own kI (bN _) hlt;go_wp2_with fail;exact jc results94 rfl w v1 mb mo _ _ _ rfl rfl rfl kU mv kv
   ·by_cases h126:c≤126
    ·have e:s.eZ c=(.zero,[3,0,s.mr,c,0]++z16,true):=by unfold MS.eZ;rw[ai h91,ai (by simp[ht]),ai h47,ak h126]
     rw[e];clear e ht h91;have c1:=h.c1;go_enter func94,ntmps94;go_wp2_with fail;refine(Az c false _ HT.o).mono ?_;rintro e w1 ⟨rfl,rfl⟩;go_wp2_with (refine b_ _ rfl (.tmp 6) (.tmp 39) rfl (w.heap.size+1) aO ([3,0,s.mr,c,0]++z16) rfl _ rfl rfl rfl 46 (uB w _ _).2 rfl ?_);intro u0 gu0 ru0 zu0;have m0:=((h.alloc _).alloc _).own ru0 (by omega);have g0:=(ru0.block w.heap.size (by simp;omega) (by simp)).trans (uB w _ _).1;have kk0:=((k0 _).alloc _ hlt).own ru0 (by omega) hlt;have zz0:w.heap.size+1<u0.heap.size:=by have:=ru0.size;simp at this;omega
     clear ru0 c1;go_wp2_with (refine mV _ rfl (.tmp 42) (.tmp 41) rfl mb mo _ .zero rfl _ rfl rfl jb m0 ?_);intro u1 m1 k1 z1;have yo:=(k1.block w.heap.size (by omega) (by omega)).trans g0;have ge1:=(k1.block (w.heap.size+1) (by omega) (by omega)).trans gu0;have kk1:=kk0.trans k1;clear m0 g0 kk0 k1 gu0;go_wp2_with (first|(refine fA _ rfl (.tmp 6) rfl (w.heap.size+1) ([3,0,s.mr,c,0]++z16) rfl rfl 46 (0,0) ge1 ?_)|(refine b_ _ rfl (.tmp 4) (.tmp 43) rfl w.heap.size aO ([3,0,s.mr,c,0]++z16) rfl _ rfl rfl rfl 46 yo rfl ?_;intro u4 gu4 ru4 zu4));have mu4:=m1.own (‹World.grownBy u1 _ (some w.heap.size)›) (by omega);have ku4:=kk1.own (‹World.grownBy u1 _ (some w.heap.size)›) (bN _) hlt;exact jc results94 rfl w _ mb mo _ _ _ rfl rfl rfl ‹_› mu4 ku4
    ·have e:s.eZ c=(.zero,aO,false):=by unfold MS.eZ;rw[ai h91,ai (by simp[ht]),ai h47,ai h126]
     rw[e];clear e ht h91;go_enter func94,ntmps94;go_wp2_with fail;refine(Az c false _ HT.o).mono ?_;rintro e w1 ⟨rfl,rfl⟩;go_wp2_with (refine mV _ rfl (.tmp 9) (.tmp 8) rfl mb mo _ .zero rfl _ rfl rfl jb (h.alloc _) ?_);intro u1 m1 k1 z1;have yo:u1.heap[w.heap.size]? =some (.cells (aA aO) 46 (0,0)):=(k1.block _ (by simp) (by omega)).trans (bV _ _);go_wp2_with (refine b_ _ rfl (.tmp 4) (.tmp 44) rfl w.heap.size aO aO rfl _ rfl rfl rfl 46 yo rfl ?_);intro v1 kU kI yV;have mv:=m1.own kI (by omega);have kv:=((k0 _).trans k1).own kI (bN _) hlt;go_wp2_with fail;exact jc results94 rfl w v1 mb mo _ _ _ rfl rfl rfl kU mv kv
theorem FH(mb mo:Nat)(s:MS)(c:Int)(w:World)(h:kS w mb mo s)(hs:s.ok)(hc0:32≤c)(hc1:c≤10000000):
 Calls prog 54 #[.pointer (some ⟨mb,mo,none⟩),.int .i64 c] w fun e w'=>e= .returned (.tuple #[.agg (aA (s.dm c).2.1),.bool (s.dm c).2.2])∧kS w' mb mo (s.dm c).1∧Km mb mo w w':=by
 have hlt:=h.lt;have k0:∀o,Km mb mo w (w.alloc o):=fun o=>(Km.refl mb mo w).alloc o hlt;have c0:=h.c0;have gq:=vC hs.len c;rcases(show s.md=0∨s.md=1∨s.md=2∨s.md=3∨s.md=4∨s.md=5 by have:=hs.m0;have:=hs.m5;omega)with hm|hm|hm|hm|hm|hm
 ·have e:s.dm c=(s,[1,c,0,0,0]++z16,true):=by simp[MS.dm,hm]
  have b0:(s.md==0)=true:=by simp[hm]
  have b1:(s.md==1)=false:=by simp[hm]
  have b2:(s.md==2)=false:=by simp[hm]
  have b3:(s.md==3)=false:=by simp[hm]
  have b4:(s.md==4)=false:=by simp[hm]
  rw[e];clear e gq hm;go_enter func54,ntmps54;go_wp2_with (refine b_ _ rfl (.tmp 4) (.tmp 21) rfl w.heap.size aO ([1,c,0,0,0]++z16) rfl _ rfl rfl rfl 46 (bV w _) rfl ?_);intro v1 kU kI yV;have mv:=(h.alloc _).own kI (by omega);have kv:=(k0 _).own kI (bN _) hlt;go_wp2_with fail;exact jc results54 rfl w v1 mb mo _ _ _ rfl rfl rfl kU mv kv
 ·have e:s.dm c=s.eZ c:=by simp[MS.dm,hm]
  rw[e]at gq;have b0:(s.md==0)=false:=by simp[hm]
  have b1:(s.md==1)=true:=by simp[hm]
  have b2:(s.md==2)=false:=by simp[hm]
  have b3:(s.md==3)=false:=by simp[hm]
  have b4:(s.md==4)=false:=by simp[hm]
  rw[e];clear e hm;obtain⟨⟨S,EV,B⟩,hS⟩:∃x,s.eZ c=x:=⟨_,rfl⟩;have HS:Hid _:=hS;rw[hS]at gq;rw[hS];clear hS;dsimp only at gq ⊢;go_enter func54,ntmps54;go_wp2_with fail;refine(FE mb mo s c _ (h.alloc _) hc0).mono ?_;rw[HS.o];rintro e u1 ⟨rfl,m1,k1⟩;dsimp only at m1 ⊢;have yo:u1.heap[w.heap.size]? =some (.cells (aA aO) 46 (0,0)):=(k1.block _ (by simp) (by omega)).trans (bV _ _);go_wp2_with (refine b_ _ rfl (.tmp 4) (.tmp 25) rfl w.heap.size aO EV rfl _ rfl rfl gq 46 yo rfl ?_);intro v1 kU kI yV;have mv:=m1.own kI (by omega);have kv:=((k0 _).trans k1).own kI (bN _) hlt;go_wp2_with fail;exact jc results54 rfl w v1 mb mo _ _ _ gq rfl rfl kU mv kv
 ·have c1:=h.c1;have b0:(s.md==0)=false:=by simp[hm]
  have b1:(s.md==1)=false:=by simp[hm]
  have b2:(s.md==2)=true:=by simp[hm]
  have b3:(s.md==3)=false:=by simp[hm]
  have b4:(s.md==4)=false:=by simp[hm]
  cases hk:mU c with
  |true=>
   have e:s.dm c=(⟨3,c,s.ct,s.ps⟩,aO,false):=by simp[MS.dm,hm,hk]
   rw[e];have HK:Hid _:=hk;clear e gq hm hk;go_enter func54,ntmps54;go_wp2_with (refine yT _ rfl 69 RU (.tmp 29) _ rfl mb mo 0 (by omega) s ⟨3,s.mr,s.ct,s.ps⟩ 3 rfl rfl (h.alloc _) ((h.alloc _).acR 3) ?_);intro u1 m1 k1 z1;go_wp2_with fail;refine(Ho c true _ HK.o).mono ?_;rintro e w1 ⟨rfl,rfl⟩;go_wp2_with (refine yT _ rfl 3 Wm (.tmp 35) (.tmp 33) rfl mb mo 1 (by omega) ⟨3,s.mr,s.ct,s.ps⟩ ⟨3,c,s.ct,s.ps⟩ c rfl rfl m1 (m1.acT c) ?_);intro u2 m2 k2 z2;have k12:=k1.trans k2;have FT:u2.heap[w.heap.size]? =some (.cells (aA aO) 46 (0,0)):=(k12.block _ (by simp) (by omega)).trans (bV _ _);go_wp2_with (refine b_ _ rfl (.tmp 4) (.tmp 36) rfl w.heap.size aO aO rfl _ rfl rfl rfl 46 FT rfl ?_);intro v1 kU kI yV;have mv:=m2.own kI (by omega);have kv:=((k0 _).trans k12).own kI (bN _) hlt;go_wp2_with fail;exact jc results54 rfl w v1 mb mo _ _ _ rfl rfl rfl kU mv kv
  |false=>
   have e:s.dm c=MS.dJ ⟨3,s.mr,s.ct,s.ps⟩ c:=by simp[MS.dm,hm,hk]
   have hs3:=hs.third hm hs.r0 hs.r1;have hct:=hs.c2 (Or.inl hm);rw[e]at gq;rw[e];have HK:Hid _:=hk;clear e hm hk;obtain⟨⟨S,EV,B⟩,hS⟩:∃x,MS.dJ ⟨3,s.mr,s.ct,s.ps⟩ c=x:=⟨_,rfl⟩;have HS:Hid _:=hS;rw[hS]at gq;rw[hS];clear hS;dsimp only at gq ⊢;go_enter func54,ntmps54;go_wp2_with (refine yT _ rfl 69 RU (.tmp 29) _ rfl mb mo 0 (by omega) s ⟨3,s.mr,s.ct,s.ps⟩ 3 rfl rfl (h.alloc _) ((h.alloc _).acR 3) ?_);intro u0 m0 kk0 z0;go_wp2_with fail;refine(Ho c false _ HK.o).mono ?_;rintro e w1 ⟨rfl,rfl⟩;go_wp2_with fail;refine(yO mb mo ⟨3,s.mr,s.ct,s.ps⟩ c _ m0 hs3 (by omega) hc1 hct).mono ?_;rw[HS.o];rintro e u1 ⟨rfl,m1,kk1⟩;dsimp only at m1 ⊢;have k1:=kk0.trans kk1;have yo:u1.heap[w.heap.size]? =some (.cells (aA aO) 46 (0,0)):=(k1.block _ (by simp) (by omega)).trans (bV _ _);go_wp2_with (refine b_ _ rfl (.tmp 4) (.tmp 40) rfl w.heap.size aO EV rfl _ rfl rfl gq 46 yo rfl ?_);intro v1 kU kI yV;have mv:=m1.own kI (by omega);have kv:=((k0 _).trans k1).own kI (bN _) hlt;go_wp2_with fail;exact jc results54 rfl w v1 mb mo _ _ _ gq rfl rfl kU mv kv
 ·have e:s.dm c=s.dJ c:=by simp[MS.dm,hm]
  have hct:=hs.c2 (Or.inr hm);rw[e]at gq;have b0:(s.md==0)=false:=by simp[hm]
  have b1:(s.md==1)=false:=by simp[hm]
  have b2:(s.md==2)=false:=by simp[hm]
  have b3:(s.md==3)=true:=by simp[hm]
  have b4:(s.md==4)=false:=by simp[hm]
  rw[e];clear e hm;obtain⟨⟨S,EV,B⟩,hS⟩:∃x,s.dJ c=x:=⟨_,rfl⟩;have HS:Hid _:=hS;rw[hS]at gq;rw[hS];clear hS;dsimp only at gq ⊢;go_enter func54,ntmps54;go_wp2_with fail;refine(yO mb mo s c _ (h.alloc _) hs (by omega) hc1 hct).mono ?_;rw[HS.o];rintro e u1 ⟨rfl,m1,k1⟩;dsimp only at m1 ⊢;have yo:u1.heap[w.heap.size]? =some (.cells (aA aO) 46 (0,0)):=(k1.block _ (by simp) (by omega)).trans (bV _ _);go_wp2_with (refine b_ _ rfl (.tmp 4) (.tmp 40) rfl w.heap.size aO EV rfl _ rfl rfl gq 46 yo rfl ?_);intro v1 kU kI yV;have mv:=m1.own kI (by omega);have kv:=((k0 _).trans k1).own kI (bN _) hlt;go_wp2_with fail;exact jc results54 rfl w v1 mb mo _ _ _ gq rfl rfl kU mv kv
 ·
  have b0:(s.md==0)=false:=by simp[hm]
  have b1:(s.md==1)=false:=by simp[hm]
  have b2:(s.md==2)=false:=by simp[hm]
  have b3:(s.md==3)=false:=by simp[hm]
  have b4:(s.md==4)=true:=by simp[hm]
  cases hk:fe c with
  |true=>
   have e:s.dm c=(.zero,aO,false):=by simp[MS.dm,hm,hk]
   rw[e];have HK:Hid _:=hk;clear e gq hm hk;go_enter func54,ntmps54;go_wp2_with fail;refine(ym c true _ HK.o).mono ?_;rintro e w1 ⟨rfl,rfl⟩;go_wp2_with (refine mV _ rfl (.tmp 46) (.tmp 45) rfl mb mo _ .zero rfl _ rfl rfl jb (h.alloc _) ?_);intro u1 m1 k1 z1;have yo:u1.heap[w.heap.size]? =some (.cells (aA aO) 46 (0,0)):=(k1.block _ (by simp) (by omega)).trans (bV _ _);go_wp2_with (refine b_ _ rfl (.tmp 4) (.tmp 47) rfl w.heap.size aO aO rfl _ rfl rfl rfl 46 yo rfl ?_);intro v1 kU kI yV;have mv:=m1.own kI (by omega);have kv:=((k0 _).trans k1).own kI (bN _) hlt;go_wp2_with fail;exact jc results54 rfl w v1 mb mo _ _ _ rfl rfl rfl kU mv kv
  |false=>
   have e:s.dm c=(s,aO,false):=by simp[MS.dm,hm,hk]
   rw[e];have HK:Hid _:=hk;clear e gq hm hk;go_enter func54,ntmps54;go_wp2_with fail;refine(ym c false _ HK.o).mono ?_;rintro e w1 ⟨rfl,rfl⟩;go_wp2_with (refine b_ _ rfl (.tmp 4) (.tmp 47) rfl w.heap.size aO aO rfl _ rfl rfl rfl 46 (bV w _) rfl ?_);intro v1 kU kI yV;have mv:=(h.alloc _).own kI (by omega);have kv:=(k0 _).own kI (bN _) hlt;go_wp2_with fail;exact jc results54 rfl w v1 mb mo _ _ _ rfl rfl rfl kU mv kv
 ·have e:s.dm c=(s,aO,false):=by simp[MS.dm,hm]
  have b0:(s.md==0)=false:=by simp[hm]
  have b1:(s.md==1)=false:=by simp[hm]
  have b2:(s.md==2)=false:=by simp[hm]
  have b3:(s.md==3)=false:=by simp[hm]
  have b4:(s.md==4)=false:=by simp[hm]
  rw[e];clear e gq hm;go_enter func54,ntmps54;go_wp2_with (refine b_ _ rfl (.tmp 4) (.tmp 47) rfl w.heap.size aO aO rfl _ rfl rfl rfl 46 (bV w _) rfl ?_);intro v1 kU kI yV;have mv:=(h.alloc _).own kI (by omega);have kv:=(k0 _).own kI (bN _) hlt;go_wp2_with fail;exact jc results54 rfl w v1 mb mo _ _ _ rfl rfl rfl kU mv kv
theorem Ed(mb mo:Nat)(s:MS)(c:Int)(w:World)(h:kS w mb mo s)(hs:s.ok)(hc0:0≤c)(hc1:c≤10000000):
 Calls prog 26 #[.pointer (some ⟨mb,mo,none⟩),.int .i64 c] w fun e w'=>e= .returned (.tuple #[.agg (aA (s.take c).2.1),.bool (s.take c).2.2])∧kS w' mb mo (s.take c).1∧Km mb mo w w':=by
 have hlt:=h.lt;have k0:∀o,Km mb mo w (w.alloc o):=fun o=>(Km.refl mb mo w).alloc o hlt;have c0:=h.c0;rcases(show c=24∨c=26∨c=27∨(c≠24∧c≠26∧c≠27) by omega)with hv|hv|hv|⟨n1,n2,n3⟩
 ·have e:s.take c=(.zero,aO,false):=by simp[MS.take,hv]
  rw[e];clear e;subst hv;go_enter func26,ntmps26;go_wp2_with (refine mV _ rfl (.tmp 15) (.tmp 14) rfl mb mo _ .zero rfl _ rfl rfl jb (h.alloc _) ?_);intro u1 m1 k1 z1;have yo:u1.heap[w.heap.size]? =some (.cells (aA aO) 46 (0,0)):=(k1.block _ (by simp) (by omega)).trans (bV _ _);go_wp2_with (refine b_ _ rfl (.tmp 4) (.tmp 44) rfl w.heap.size aO aO rfl _ rfl rfl rfl 46 yo rfl ?_);intro v1 kU kI yV;have mv:=m1.own kI (by omega);have kv:=((k0 _).trans k1).own kI (bN _) hlt;go_wp2_with fail;exact jc results26 rfl w v1 mb mo _ _ _ rfl rfl rfl kU mv kv
 ·have e:s.take c=(.zero,aO,false):=by simp[MS.take,hv]
  rw[e];clear e;subst hv;go_enter func26,ntmps26;go_wp2_with (refine mV _ rfl (.tmp 15) (.tmp 14) rfl mb mo _ .zero rfl _ rfl rfl jb (h.alloc _) ?_);intro u1 m1 k1 z1;have yo:u1.heap[w.heap.size]? =some (.cells (aA aO) 46 (0,0)):=(k1.block _ (by simp) (by omega)).trans (bV _ _);go_wp2_with (refine b_ _ rfl (.tmp 4) (.tmp 44) rfl w.heap.size aO aO rfl _ rfl rfl rfl 46 yo rfl ?_);intro v1 kU kI yV;have mv:=m1.own kI (by omega);have kv:=((k0 _).trans k1).own kI (bN _) hlt;go_wp2_with fail;exact jc results26 rfl w v1 mb mo _ _ _ rfl rfl rfl kU mv kv
 ·have e:s.take c=(⟨1,0,0,z16⟩,aO,false):=by simp[MS.take,hv]
  rw[e];clear e;subst hv;go_enter func26,ntmps26;go_wp2_with (refine mV _ rfl (.tmp 21) (.tmp 20) rfl mb mo _ ⟨1,0,0,z16⟩ rfl _ rfl rfl jb (h.alloc _) ?_);intro u1 m1 k1 z1;have yo:u1.heap[w.heap.size]? =some (.cells (aA aO) 46 (0,0)):=(k1.block _ (by simp) (by omega)).trans (bV _ _);go_wp2_with (refine b_ _ rfl (.tmp 4) (.tmp 44) rfl w.heap.size aO aO rfl _ rfl rfl rfl 46 yo rfl ?_);intro v1 kU kI yV;have mv:=m1.own kI (by omega);have kv:=((k0 _).trans k1).own kI (bN _) hlt;go_wp2_with fail;exact jc results26 rfl w v1 mb mo _ _ _ rfl rfl rfl kU mv kv
 ·have d1:(c==24)=false:=by simp[n1]
  have d2:(c==26)=false:=by simp[n2]
  have d3:(c==27)=false:=by simp[n3]
  by_cases hm:s.md=5
  ·have e:s.take c=(s.skip c,aO,false):=by simp[MS.take,n1,n2,n3,hm]
   have b5:(s.md==5)=true:=by simp[hm]
   rw[e];clear e hm n1 n2 n3;go_enter func26,ntmps26;go_wp2_with fail;refine(Oe mb mo s c _ (h.alloc _)).mono ?_;rintro e u1 ⟨rfl,m1,k1⟩;have yo:u1.heap[w.heap.size]? =some (.cells (aA aO) 46 (0,0)):=(k1.block _ (by simp) (by omega)).trans (bV _ _);go_wp2_with (refine b_ _ rfl (.tmp 4) (.tmp 44) rfl w.heap.size aO aO rfl _ rfl rfl rfl 46 yo rfl ?_);intro v1 kU kI yV;have mv:=m1.own kI (by omega);have kv:=((k0 _).trans k1).own kI (bN _) hlt;go_wp2_with fail;exact jc results26 rfl w v1 mb mo _ _ _ rfl rfl rfl kU mv kv
  ·have b5:(s.md==5)=false:=by simp[hm]
   by_cases h32:c<32
   ·have e:s.take c=(s,[2,c,0,0,0]++z16,true):=by simp[MS.take,n1,n2,n3,hm,h32]
    rw[e];clear e hm n1 n2 n3;go_enter func26,ntmps26;go_wp2_with (refine b_ _ rfl (.tmp 4) (.tmp 35) rfl w.heap.size aO ([2,c,0,0,0]++z16) rfl _ rfl rfl rfl 46 (bV w _) rfl ?_);intro v1 kU kI yV;have mv:=(h.alloc _).own kI (by omega);have kv:=(k0 _).own kI (bN _) hlt;go_wp2_with fail;exact jc results26 rfl w v1 mb mo _ _ _ rfl rfl rfl kU mv kv
   ·by_cases h127:c=127
    ·have e:s.take c=(s,aO,false):=by simp[MS.take,hm,h127]
     rw[e];clear e hm n1 n2 n3 d1 d2 d3;subst h127;go_enter func26,ntmps26;go_wp2_with (refine b_ _ rfl (.tmp 4) (.tmp 44) rfl w.heap.size aO aO rfl _ rfl rfl rfl 46 (bV w _) rfl ?_);intro v1 kU kI yV;have mv:=(h.alloc _).own kI (by omega);have kv:=(k0 _).own kI (bN _) hlt;go_wp2_with fail;exact jc results26 rfl w v1 mb mo _ _ _ rfl rfl rfl kU mv kv
    ·have e:s.take c=s.dm c:=by simp[MS.take,n1,n2,n3,hm,h32,h127]
     have gq:=vC hs.len c;have d4:(c != 127)=true:=by simp[h127]
     rw[e];clear e hm n1 n2 n3 h127;obtain⟨⟨S,EV,B⟩,hS⟩:∃x,s.dm c=x:=⟨_,rfl⟩;have HS:Hid _:=hS;rw[hS]at gq;rw[hS];clear hS;dsimp only at gq ⊢;go_enter func26,ntmps26;go_wp2_with fail;refine(FH mb mo s c _ (h.alloc _) hs (by omega) hc1).mono ?_;rw[HS.o];rintro e u1 ⟨rfl,m1,k1⟩;dsimp only at m1 ⊢;have yo:u1.heap[w.heap.size]? =some (.cells (aA aO) 46 (0,0)):=(k1.block _ (by simp) (by omega)).trans (bV _ _);go_wp2_with (refine b_ _ rfl (.tmp 4) (.tmp 42) rfl w.heap.size aO EV rfl _ rfl rfl gq 46 yo rfl ?_);intro v1 kU kI yV;have mv:=m1.own kI (by omega);have kv:=((k0 _).trans k1).own kI (bN _) hlt;go_wp2_with fail;exact jc results26 rfl w v1 mb mo _ _ _ gq rfl rfl kU mv kv
theorem uX{e:TypeId}{xs:List Value}(h:w.ownsRow base e 1 v n xs):
 ∃ao cap,v= .slice ao n cap∧∀j x,xs[j]? =some x→∃g,ao=some ⟨g,0,none⟩∧w.cell? ⟨g,j,none⟩=some x:=by
 obtain⟨h1,h2⟩:=h;rcases h2 with⟨rfl,h0⟩|⟨g,cap,cur,rfl,_,hg,hn,_,hcs,htake⟩
 ·refine⟨none,0,by rw[h0],fun j x hj=>?_⟩;have:xs=[]:=zT (by rw[h1,h0]);subst this;simp at hj
 ·refine⟨_,cap,rfl,fun j x hj=>⟨g,rfl,?_⟩⟩;rw[bG _ _ _ _ _ _ hg];rw[←htake,mJ]at hj;split at hj
  ·simpa using hj
  ·cases hj
structure C_ (w:World) (bb:Nat) (vi vm:Value) (I:List Value) (M:List Int) (E:List (Value × Int)) (nx:Int):Prop where
 c0:w.cell? ⟨bb,0,none⟩=some vi
 c1:w.cell? ⟨bb,1,none⟩=some vm
 c2:w.cell? ⟨bb,2,none⟩=some (.slice none 0 0)
 c3:w.cell? ⟨bb,3,none⟩=some (.slice none 0 0)
 c4:w.cell? ⟨bb,4,none⟩=some (.slice none 0 0)
 c5:w.cell? ⟨bb,5,none⟩=some (.slice none 0 0)
 c6:w.cell? ⟨bb,6,none⟩=some (.int .i64 nx)
 f:∀j,j<7→w.frozen? ⟨bb,j,none⟩=false
 oi:w.ownsRow (bb+1) 53 1 vi I.length I
 om:gI w (bb+1) vm M
 ent:∀x∈E,Apart x.1 vm∧∃p,p≤1000000000∧gI w (bb+1) x.1 (List.replicate p x.2)
theorem C_.below(h:C_ w bb vi vm I M E nx)(hb:Below w.heap.size w w'):C_ w' bb vi vm I M E nx:=by
 have hlt:bb<w.heap.size:=F4 _ _ h.c0;have hg:w.grownBy w' none:=⟨hb.os,hb.tape,hb.output,hb.size,fun k hk _=>hb.block k hk⟩;have hr:∀{base e size v n xs},w.ownsRow base e size v n xs→w'.ownsRow base e size v n xs:=fun{_ _ _ v _ _} h=>h.kept hg (by cases hv:v.ownBlock<;>simp)
 refine⟨(hb.cell hlt).trans h.c0,(hb.cell hlt).trans h.c1,(hb.cell hlt).trans h.c2,(hb.cell hlt).trans h.c3,(hb.cell hlt).trans h.c4,(hb.cell hlt).trans h.c5,(hb.cell hlt).trans h.c6,
  fun j hj=>(hb.frozen hlt).trans (h.f j hj),hr h.oi,hr h.om,fun x hx=>?_⟩
 obtain⟨a,p,hp,hl⟩:=h.ent x hx;exact⟨a,p,hp,hr hl⟩
theorem Apart.symm(h:Apart u v):Apart v u:=by
 unfold Apart at*;cases hv:v.ownBlock with
 |none=>exact Or.inl rfl
 |some k=>
  rcases h with h|h
  ·right;rw[h];simp
  ·right;rw[hv]at h;exact fun e=>h e.symm
theorem Apart.later{z:Value}(h:v.ownBlock=u.ownBlock∨∃k,v.ownBlock=some k∧n≤k)(ha:Apart u z)(hz:∀k,z.ownBlock=some k→k<n):Apart v z:=by
 unfold Apart at*;rcases h with h|⟨k,h,hk⟩
 ·rw[h];exact ha
 ·right;rw[h];intro e;have:=hz k e.symm;omega
theorem NL(p:Nat)(m:Int):qQ p [.int .i64 m]=(List.replicate p m).map (Value.int .i64):=by
 induction p with
 |zero=>rfl
 |succ p ih=>unfold qQ at ih ⊢;rw[AO,List.flatten_cons,ih,AO,List.map_cons];rfl
theorem gI.qQ:gI w base v (List.replicate p m)↔w.ownsRow base 3 1 v p (qQ p [.int .i64 m]):=by unfold gI;rw[NL,kJ]
theorem C_.grown(h:C_ w bb vi vm I M E nx){row:Option Nat}(hg:w.grownBy w' row)(hbb:some bb≠row)(hi:vi.ownBlock=none∨vi.ownBlock≠row)(hm:vm.ownBlock=none∨vm.ownBlock≠row)(hE:∀x∈E,x.1.ownBlock=none∨x.1.ownBlock≠row):C_ w' bb vi vm I M E nx:=by
 have hlt:bb<w.heap.size:=F4 _ _ h.c0;have hbk:=hg.block bb hlt hbb
 refine⟨(dA hbk).trans h.c0,(dA hbk).trans h.c1,(dA hbk).trans h.c2,(dA hbk).trans h.c3,(dA hbk).trans h.c4,(dA hbk).trans h.c5,(dA hbk).trans h.c6,
  fun j hj=>(CY hbk).trans (h.f j hj),h.oi.kept hg hi,xU h.om hg hm,fun x hx=>?_⟩
 obtain⟨a,p,hp,hl⟩:=h.ent x hx;exact⟨a,p,hp,xU hl hg (hE x hx)⟩
structure Fr (S:Nat→Prop) (w w':World):Prop where
 os:w'.os=w.os
 tape:w'.tape=w.tape
 output:w'.output=w.output
 size:w.heap.size≤w'.heap.size
 block:∀g,g<w.heap.size→¬S g→w'.heap[g]? =w.heap[g]?
theorem Fr.trans{a b c:World}(h:Fr S a b)(k:Fr S b c):Fr S a c:=
 ⟨k.os.trans h.os,k.tape.trans h.tape,k.output.trans h.output,iD h.size k.size,fun g hg hs=>(k.block g (fJ hg h.size) hs).trans (h.block g hg hs)⟩
theorem Fr.grown{row:Option Nat}(h:w.grownBy w' row)(hs:∀g,some g=row→S g):Fr S w w':=
 ⟨h.os,h.tape,h.output,h.size,fun g hg hn=>h.block g hg (fun e=>hn (hs g e))⟩
theorem Fr.set{b o:Nat}{x:Value}(hs:S b):Fr S w (w.setCell ⟨b,o,none⟩ x):=
 ⟨rfl,rfl,rfl,by simp[World.setCell],fun g _ hn=>AQ _ _ _ _ (fun e=>hn (e▸hs))⟩
theorem Fr.below(h:Fr S w w')(hB:B≤w.heap.size)(hs:∀g,g<B→¬S g):Below B w w':=
 ⟨h.os,h.tape,h.output,h.size,fun k hk=>h.block k (by omega) (hs k hk)⟩
theorem gI.slice{b:Nat}(h:gI w b v (List.replicate p m)):∃a c,v= .slice a p c:=by obtain⟨a,c,e,_⟩:=uX h;exact⟨a,c,by simpa using e⟩
def bl (s:ByteArray):List Int:=s.data.toList.map fun c=>(c.toNat:Int)
theorem cZ(s:ByteArray):(bl s).length=s.size:=by simp[bl]
theorem Us(s:ByteArray)(k:Nat)(h:k<s.size):(bl s).take (k+1)=(bl s).take k++[((s[k]'h).toNat:Int)]:=by rw[o7 (by rw[cZ];exact h)];simp[bl];rfl
theorem Xv(s:ByteArray):(bl s).take s.size=bl s:=nL (by rw[cZ];exact bN _)
theorem gI.mono{B':Nat}{L:List Int}(h:gI w B v L)(hB:B'≤B):gI w B' v L:=by
 obtain⟨h1,h2⟩:=h;refine⟨h1,?_⟩;rcases h2 with h2|⟨g,cap,cur,hv,hg,r⟩
 ·exact Or.inl h2
 ·exact Or.inr ⟨g,cap,cur,hv,iD hB hg,r⟩
theorem qb.lt{w:World}(h:qb w):0<w.heap.size:=by obtain⟨t,fr,h⟩:=h;exact(wK.1 h).1
def oP (c:Int):List Int:=
 if c<128 then[c]else if c<2048 then[192+c / 64,128+c % 64]else if c<65536 then[224+c / 4096,128+c / 64 % 64,128+c % 64]
 else[240+c / 262144,128+c / 4096 % 64,128+c / 64 % 64,128+c % 64]
theorem Ov{r:RS}(h:128≤b)(hl:lead b=some r):RS.zero.take b=(r,[]):=by simp[RS.take,RS.zero,RS.uC,hl,show¬b<128 by omega]
theorem Eb{s:RS}(hm:s.m≠0)(h0:s.lo≤b)(h1:b≤s.hi):s.take b=s.join b:=by
 have h:¬(b<s.lo∨s.hi<b):=by omega
 simp only[RS.take,hm,h,ou]
theorem Nq{v:Int}(hm:m≠1):RS.join ⟨m,lo,hi,v⟩ b=(⟨m-1,128,191,v*64+b % 64⟩,[]):=by simp[RS.join,hm]
theorem join_one{v:Int}:RS.join ⟨1,lo,hi,v⟩ b=(.zero,[v*64+b % 64]):=by simp[RS.join]
theorem Om{v:Int}(hm0:m≠0)(hm:m≠1)(h0:lo≤b)(h1:b≤hi):RS.take ⟨m,lo,hi,v⟩ b=(⟨m-1,128,191,v*64+b % 64⟩,[]):=
 (Eb (s:=⟨m,lo,hi,v⟩) hm0 h0 h1).trans (Nq hm)
theorem Sb{v:Int}(h0:lo≤b)(h1:b≤hi):RS.take ⟨1,lo,hi,v⟩ b=(.zero,[v*64+b % 64]):=
 (Eb (s:=⟨1,lo,hi,v⟩) (by simp) h0 h1).trans join_one
theorem OA(c:Int)(h0:0≤c)(h1:c<1114112):∀x∈oP c,0≤x∧x<256:=by
 unfold oP;intro x hx
 repeat' split at hx
 all_goals simp at hx
 ·omega
 ·rcases hx with rfl|rfl<;>omega
 ·rcases hx with rfl|rfl|rfl<;>omega
 ·rcases hx with rfl|rfl|rfl|rfl<;>omega
theorem IQ(c:Int):(oP c).length≤4:=by
 unfold oP
 repeat' split
 all_goals simp
end Go.Proofs.YtheibfffilomcaaGreatDoor
