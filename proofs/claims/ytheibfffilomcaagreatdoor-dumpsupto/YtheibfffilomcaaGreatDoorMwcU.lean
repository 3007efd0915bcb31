import Derived.Test.YtheibfffilomcaaGreatDoorTmaU
import Derived.Test.YtheibfffilomcaaGreatDoorCaU
import Derived.StillTail
import Derived.StillTactics
set_option linter.all false
set_option maxRecDepth 100000
set_option maxHeartbeats 2000000
namespace Go.Proofs.YtheibfffilomcaaGreatDoor
open Go.RowKit Go.Proofs.Tryz
variable {w a b w' u:World} {mb mo rb ro base:Nat} {v v':Value} {s:MS} {ops:Array Oper} {rest:List Oper} {L:List Int}
structure Kl (v v':Value) (rb ro:Nat) (w w':World):Prop where
 os:w'.os=w.os
 tape:w'.tape=w.tape
 output:w'.output=w.output
 size:w.heap.size≤w'.heap.size
 block:∀k,k<w.heap.size→k≠rb→v.ownBlock≠some k→w'.heap[k]? =w.heap[k]?
 cell:∀o,(o<ro∨ro+4≤o)→w'.cell? ⟨rb,o,none⟩=w.cell? ⟨rb,o,none⟩
 frozen:∀o,w'.frozen? ⟨rb,o,none⟩=w.frozen? ⟨rb,o,none⟩
 own:∀k,v'.ownBlock=some k→v.ownBlock=some k∨w.heap.size≤k
theorem Kl.refl(v:Value)(rb ro:Nat)(w:World):Kl v v rb ro w w:=⟨rfl,rfl,rfl,bN _,fun _ _ _ _=>rfl,fun _ _=>rfl,fun _=>rfl,fun _ h=>.inl h⟩
theorem Kl.trans{v1 v2:Value}{c:World}(h:Kl v v1 rb ro a b)(k:Kl v1 v2 rb ro b c):Kl v v2 rb ro a c:=
 ⟨k.os.trans h.os,k.tape.trans h.tape,k.output.trans h.output,iD h.size k.size,fun i hi hn hv=>(k.block i (fJ hi h.size) hn (fun e=>by rcases h.own i e with q|q;exact hv q;omega)).trans (h.block i hi hn hv),
  fun o ho=>(k.cell o ho).trans (h.cell o ho),fun o=>(k.frozen o).trans (h.frozen o),fun i hi=>by
   rcases k.own i hi with q|q
   ·exact h.own i q
   ·exact .inr (iD h.size q)⟩
theorem Kl.iQ(v:Value)(w:World)(s:RS):Kl v v rb ro w (World.iQ w rb ro s):=by have k:=BV (base:=w.heap.size) (rb:=rb) (ro:=ro) w s;exact⟨k.os,k.tape,k.output,k.size,fun i hi hn _=>k.block i hi hn,k.cell,k.frozen,fun _ h=>.inl h⟩
theorem Kl.below(h:Below w.heap.size w w')(hr:rb<w.heap.size):Kl v v rb ro w w':=⟨h.os,h.tape,h.output,h.size,fun i hi _ _=>h.block i hi,fun _ _=>h.cell hr,fun _=>h.frozen hr,fun _ h=>.inl h⟩
theorem Kl.grown{w1:World}(h:u.grownBy w1 v.ownBlock)(ho:∀k,v'.ownBlock=some k→v.ownBlock=some k∨u.heap.size≤k)(hne:v.ownBlock≠some rb)(hr:rb<u.heap.size):Kl v v' rb ro u w1:=by have hb:w1.heap[rb]? =u.heap[rb]? :=h.block rb hr (fun e=>hne e.symm);exact⟨h.os,h.tape,h.output,h.size,fun i hi _ hv=>h.block i hi (fun e=>hv e.symm),fun _ _=>dA hb,fun _=>CY hb,ho⟩
theorem tO{c:World}{row:Option Nat}(h:a.grownBy b row)(k:b.grownBy c row):a.grownBy c row:=⟨k.os.trans h.os,k.tape.trans h.tape,k.output.trans h.output,iD h.size k.size,fun i hi hn=>(k.block i (fJ hi h.size) hn).trans (h.block i hi hn)⟩
theorem yR{o:Oper}{a:Act}{Q:Exit→Act→World→Prop}(u:World)(hgd:o.guard=none)(s x:Operand)(ho:o.op= .call {callee:=.builtin .append,args:=#[s,x],argTypes:=#[53,53]})(base:Nat)(v:Value)(L:List Int)(y:Int)(hs:a.eval s=v)(own:gI u base v L)(g:Nat)(hg:g=u.heap.size)(hx:a.eval x= .slice (some ⟨g,0,none⟩) 1 1)(hL:L.length≤1000000000)(hb:base≤u.heap.size)(h:∀v' w',gI w' base v' (L++[y])→Below base u w'→u.grownBy w' v.ownBlock→(∀k,v'.ownBlock=some k→v.ownBlock=some k∨u.heap.size≤k)→wpList prog ops Q rest (a.put o.dst v') w'):wpList prog ops Q (o::rest) a (u.alloc (.cells #[.int .i64 y] 3)):=by
 obtain⟨i0,hi,hz0,hz1,hz2⟩:=info_parts info3;subst hg;refine jI _ hgd s x 53 ho base 3 i0 (.int .i64 0) 1 8 underlying53 hi hz0 hz1 hz2 rfl v _ _ hs (xS own _) ⟨u.heap.size,0,none⟩ 1 1 [.int .i64 y] hx rfl (cell_one_new _ _ _) ?_ (by omega) ?_ ?_ ?_ ?_
 ·intro z hz;simp at hz;subst hz;rfl
 ·unfold maxLen;omega
 ·omega
 ·simp;omega
 ·intro v' w' hown hgrow hor _;have hg2:u.grownBy w' v.ownBlock:=tO (World.grownBy_alloc u _ _) hgrow;refine h v' w' (gI.one hown) ?_ hg2 (fun k hk=>?_)
  ·refine((dU base u).alloc hb _).grown hgrow (by simp;omega) ?_;intro k hk;exact((wN own) k hk).1
  ·rcases hor with q|⟨k',q1,q2⟩
   ·exact .inl (q▸hk)
   ·rw[q1]at hk;cases hk;exact .inr (by simp at q2;omega)
theorem own_ne(own:gI w base v L)(h:rb<base):v.ownBlock≠some rb:=fun e=>by have:=((wN own) rb e).1;omega
theorem qb.kl(h:qb w)(k:Kl v v' rb ro w w')(hr:0≠rb)(hv:v.ownBlock≠some 0)(hs:0<w.heap.size):qb w':=h.kept (k.block 0 hs hr hv)
theorem M8(base rb ro:Nat)(s:RS)(v:Value)(L:List Int)(w:World)(rd:mM w rb ro s)(hm:(s.m==0)=false)(own:gI w base v L)(hL:L.length≤1000000000)(hrb:rb<base)(hb:base≤w.heap.size):
 Calls prog 51 #[.pointer (some ⟨rb,ro,none⟩),v] w fun e w'=>∃v',e= .returned v'∧gI w' base v' (L++[65533])∧mM w' rb ro .zero∧Kl v v' rb ro w w':=by
 have c0:=rd.c0;have c1:=rd.c1;have c2:=rd.c2;have c3:=rd.c3;have f0:=rd.f 0 (by omega);have f1:=rd.f 1 (by omega);have f2:=rd.f 2 (by omega);have f3:=rd.f 3 (by omega);simp only[uw]at f0;go_enter func51,ntmps51;go_wp2_with (at_builtin;refine yR (World.iQ w rb ro .zero) rfl _ _ rfl base _ L _ rfl ?c1 _ ?c2 rfl hL ?c3 ?_)
 case c1=>exact gI.iQ own hrb .zero
 case c2=>simp[World.iQ]
 case c3=>simpa[World.iQ]using hb
 intro v' w1 jR hbel hgr hown;have NH:mM w1 rb ro .zero:=(yK rd .zero).kept (hbel.block rb hrb);have k1:Kl v v' rb ro w w1:=(Kl.iQ v w .zero).trans (Kl.grown hgr hown (own_ne own hrb) (by simp[World.iQ];omega));clear c0 c1 c2 c3 f0 f1 f2 f3;go_wp2_with fail;go_ret;exact⟨_,rfl,jR,NH,k1⟩
theorem JZ(base rb ro:Nat)(s:RS)(b:Int)(v:Value)(L:List Int)(w:World)(rd:mM w rb ro s)(hm:(s.m==1)=true)(hv:0≤s.val)(hv':s.val<32768)(hb0:0≤b)(hb1:b<256)(own:gI w base v L)(hL:L.length≤1000000000)(hrb:rb<base)(hb:base≤w.heap.size):
 Calls prog 52 #[.pointer (some ⟨rb,ro,none⟩),v,.int .u8 b] w fun e w'=>∃v',e= .returned v'∧gI w' base v' (L++[s.val*64+b % 64])∧mM w' rb ro .zero∧Kl v v' rb ro w w':=by
 have abO:=Dp s.val (b % 64) hv (by omega) (by omega) (by omega);have c0:=rd.c0;have c1:=rd.c1;have c2:=rd.c2;have c3:=rd.c3;have f0:=rd.f 0 (by omega);have f1:=rd.f 1 (by omega);have f2:=rd.f 2 (by omega);have f3:=rd.f 3 (by omega);simp only[uw]at f0;go_enter func52,ntmps52;go_wp2_with (at_builtin;refine yR (World.iQ w rb ro .zero) rfl _ _ rfl base _ L _ rfl ?c1 _ ?c2 rfl hL ?c3 ?_)
 case c1=>exact gI.iQ own hrb .zero
 case c2=>simp[World.iQ]
 case c3=>simpa[World.iQ]using hb
 intro v' w1 jR hbel hgr hown;have NH:mM w1 rb ro .zero:=(yK rd .zero).kept (hbel.block rb hrb);have k1:Kl v v' rb ro w w1:=(Kl.iQ v w .zero).trans (Kl.grown hgr hown (own_ne own hrb) (by simp[World.iQ];omega));clear c0 c1 c2 c3 f0 f1 f2 f3;go_wp2_with fail;go_ret;exact⟨_,rfl,jR,NH,k1⟩
theorem Np(base rb ro:Nat)(s:RS)(b:Int)(v:Value)(L:List Int)(w:World)(rd:mM w rb ro s)(hs:s.ok)(hm:s.m≠0)(hb0:0≤b)(hb1:b<256)(own:gI w base v L)(hL:L.length≤1000000000)(hrb:rb<base)(hb:base≤w.heap.size):
 Calls prog 52 #[.pointer (some ⟨rb,ro,none⟩),v,.int .u8 b] w fun e w'=>∃v',e= .returned v'∧gI w' base v' (L++(s.join b).2)∧mM w' rb ro (s.join b).1∧Kl v v' rb ro w w':=by
 obtain⟨a1,a2,a3,a4,a5,a6⟩:=hs;by_cases h1:s.m=1
 ·have e:s.join b=(.zero,[s.val*64+b % 64]):=by simp[RS.join,h1]
  rw[e];exact JZ base rb ro s b v L w rd (by simp[h1]) a3 (a4 h1) hb0 hb1 own hL hrb hb
 ·have e:s.join b=(⟨s.m-1,128,191,s.val*64+b % 64⟩,[]):=by simp[RS.join,h1]
  rw[e];refine(U0 rb ro s b v w rd (by simp[h1]) a1 a2 a3 (by omega) hb0 hb1).mono ?_;rintro e w' ⟨rfl,rfl⟩;exact⟨v,rfl,by simpa using gI.iQ own hrb _,yK rd _,Kl.iQ v w _⟩
theorem GG(base rb ro:Nat)(s:RS)(v:Value)(L:List Int)(w:World)(rd:mM w rb ro s)(own:gI w base v L)(hL:L.length≤1000000000)(hrb:rb<base)(hb:base≤w.heap.size):
 Calls prog 51 #[.pointer (some ⟨rb,ro,none⟩),v] w fun e w'=>∃v',e= .returned v'∧gI w' base v' (L++s.fin.2)∧mM w' rb ro s.fin.1∧Kl v v' rb ro w w':=by
 by_cases h:s.m=0
 ·have e:s.fin=(s,[]):=by simp[RS.fin,h]
  rw[e];refine(Qs rb ro s v w rd (by simp[h])).mono ?_;rintro e w' ⟨rfl,rfl⟩;exact⟨v,rfl,by simpa using own,rd,Kl.refl _ _ _ _⟩
 ·have e:s.fin=(.zero,[65533]):=by simp[RS.fin,h]
  rw[e];exact M8 base rb ro s v L w rd (by simp[h]) own hL hrb hb
theorem P6(base rb ro:Nat)(b:Int)(v:Value)(L:List Int)(w:World)(hb0:0≤b)(hb1:b<128)(own:gI w base v L)(hL:L.length≤1000000000)(hb:base≤w.heap.size)(hrb:rb<base):
 Calls prog 50 #[.pointer (some ⟨rb,ro,none⟩),v,.int .u8 b] w fun e w'=>∃v',e= .returned v'∧gI w' base v' (L++[b])∧Below base w w'∧Kl v v' rb ro w w':=by
 go_enter func50,ntmps50;go_wp2_with (at_builtin;refine yR w rfl _ _ rfl base _ L _ rfl ?c1 _ ?c2 rfl hL ?c3 ?_)
 case c1=>exact own
 case c2=>rfl
 case c3=>exact hb
 intro v' w1 jR hbel hgr hown;go_wp2_with fail;go_ret;exact⟨_,rfl,jR,hbel,Kl.grown hgr hown (own_ne own hrb) (by omega)⟩
theorem KE{wr:World}{s0:RS}(o:Obj)(s:RS)(own:gI wr base v L)(rd:mM wr rb ro s0)(hbel:Below w.heap.size w wr)(hb0:base≤w.heap.size)(hrb:rb<base)(hb:base≤wr.heap.size):
 gI ((World.iQ wr rb ro s).alloc o) base v L∧mM ((World.iQ wr rb ro s).alloc o) rb ro s∧Kl v v rb ro w ((World.iQ wr rb ro s).alloc o):=by
 obtain⟨h1,h2,_⟩:=Od (w:=w) o s own rd (hbel.mono hb0) hrb hb;refine⟨h1,h2,((Kl.below hbel (by omega)).trans (Kl.iQ v wr s)).trans (Kl.below ((dU _ _).alloc (bN _) o) ?_)⟩;have:=(Kl.iQ v (rb:=rb) (ro:=ro) wr s).size;omega
theorem MO(base rb ro:Nat)(s:RS)(b:Int)(v:Value)(L:List Int)(w:World)(rd:mM w rb ro s)(hb0:128≤b)(hb1:b<256)(hle:qb w)(hrb:rb<base)(own:gI w base v L)(hL:L.length≤1000000000)(hb:base≤w.heap.size):
 Calls prog 50 #[.pointer (some ⟨rb,ro,none⟩),v,.int .u8 b] w fun e w'=>∃v',e= .returned v'∧gI w' base v' (L++(s.uC b).2)∧mM w' rb ro (s.uC b).1∧Kl v v' rb ro w w':=by
 obtain⟨lt,lfr,uR⟩:=hle;have HL:Hid _:=uR;clear uR;have hd:decide (b<128)=false:=by simp;omega
 go_enter func50,ntmps50;go_wp2_with (refine fC rfl 154 _ rfl 0 rfl lt iT lfr _ HL.o underlying154 rfl YI ?_);go_loopw [17] (fun i wr=>∃k:Nat,k≤8∧i= .int .i64 k∧Below w.heap.size w wr∧Wh k b) (fun i _=>8-(intOf i).toNat)
 case atStart=>exact⟨0,dx _,rfl,dU _ _,by unfold Wh;simp;omega⟩
 case round=>
  obtain⟨k,hk,rfl,hbel,hno⟩:=hrel;by_cases hlt:k<8
  ·obtain⟨f,l,mk,mo,lo,hi,q,hidx,hq,hq0,hq1,hhit,hm1,hm2⟩:=acL k hlt b hb0 hb1 hno;have aeq:Hid _:=hhit;have Hm1:Hid _:=hm1;have Hm2:Hid _:=hm2;clear hhit hm1 hm2;have rd':mM wr rb ro s:=rd.kept (hbel.block rb (by omega));have own':gI wr base v L:=own.below hbel;have c0:=rd'.c0;have c1:=rd'.c1;have c2:=rd'.c2;have c3:=rd'.c3;have f0:=rd'.f 0 (by omega);have f1:=rd'.f 1 (by omega);have f2:=rd'.f 2 (by omega);have f3:=rd'.f 3 (by omega);simp only[uw]at f0;have hsz:rb<wr.heap.size:=by have:=hbel.size;omega
   go_wp2_with fail
   ·have hf:f≤b:=by assumption
    have hl:b≤l:=by assumption
    have e:s.uC b=(⟨mo,lo,hi,q⟩,[]):=by simp[RS.uC,aeq.o hf hl,show¬b<128 by omega]
    have R:=KE (.cells #[.int .u8 f,.int .u8 l,.int .u8 mk,.int .i64 mo,.int .u8 lo,.int .u8 hi] 153) ⟨mo,lo,hi,q⟩ own' rd' hbel hb hrb (by have:=hbel.size;omega);clear c0 c1 c2 c3 f0 f1 f2 f3;go_ret;rw[e];exact⟨v,rfl,by rw[gp];exact R.1,R.2.1,R.2.2⟩
   ·have hl:l<b:=by assumption
    go_roundw
    case rel=>exact⟨k+1,by omega,by go_num,hbel.alloc hbel.size _,Hm2.o hl⟩
    case measure=>simp[intOf];omega
   ·have hl:b<f:=by have h:¬f≤b:=by assumption
                    omega
    go_roundw
    case rel=>exact⟨k+1,by omega,by go_num,hbel.alloc hbel.size _,Hm1.o hl⟩
    case measure=>simp[intOf];omega
  ·have Yt:k=8:=by omega
   subst Yt;have own':gI wr base v L:=own.below hbel;have rd':mM wr rb ro s:=rd.kept (hbel.block rb (by omega));have e:s.uC b=(s,[65533]):=by simp[RS.uC,Ve b hno,show¬b<128 by omega]
   have He:Hid _:=e;clear e;go_wp2_with (at_builtin;refine yR wr rfl _ _ rfl base _ L _ rfl ?c1 _ ?c2 rfl hL ?c3 ?_)
   case c1=>exact own'
   case c2=>rfl
   case c3=>have:=hbel.size;omega
   intro v' w1 jR GV hgr hown;have NH:mM w1 rb ro s:=rd'.kept (GV.block rb hrb);have k1:Kl v v' rb ro w w1:=(Kl.below hbel (by omega)).trans (Kl.grown hgr hown (own_ne own' hrb) (by have:=hbel.size;omega));go_wp2_with fail;go_ret;rw[He.o];exact⟨_,rfl,jR,NH,k1⟩
theorem Bc(base rb ro:Nat)(s:RS)(b:Int)(v:Value)(L:List Int)(w:World)(rd:mM w rb ro s)(hb0:0≤b)(hb1:b<256)(hle:qb w)(hrb:rb<base)(own:gI w base v L)(hL:L.length≤1000000000)(hb:base≤w.heap.size):
 Calls prog 50 #[.pointer (some ⟨rb,ro,none⟩),v,.int .u8 b] w fun e w'=>∃v',e= .returned v'∧gI w' base v' (L++(s.uC b).2)∧mM w' rb ro (s.uC b).1∧Kl v v' rb ro w w':=by
 by_cases h:b<128
 ·refine(P6 base rb ro b v L w hb0 h own hL hb hrb).mono ?_;rintro e w' ⟨v',rfl,jR,hbel,kl⟩;have e:s.uC b=(s,[b]):=by simp[RS.uC,h]
  rw[e];exact⟨v',rfl,jR,rd.kept (hbel.block rb hrb),kl⟩
 ·exact MO base rb ro s b v L w rd (by omega) hb1 hle hrb own hL hb
theorem Ot(base rb ro:Nat)(s:RS)(b:Int)(v:Value)(L:List Int)(w:World)(rd:mM w rb ro s)(hs:s.ok)(hb0:0≤b)(hb1:b<256)(hle:qb w)(hr1:1<rb)(hrb:rb<base)(own:gI w base v L)(hL:L.length≤900000000)(hb:base≤w.heap.size):
 Calls prog 25 #[.pointer (some ⟨rb,ro,none⟩),v,.int .u8 b] w fun e w'=>∃v',e= .returned v'∧gI w' base v' (L++(s.take b).2)∧mM w' rb ro (s.take b).1∧Kl v v' rb ro w w':=by
 have c0:=rd.c0;have c1:=rd.c1;have c2:=rd.c2;by_cases hm:s.m=0
 ·have e:s.take b=s.uC b:=by simp[RS.take,hm]
  rw[e];have hm':(s.m==0)=true:=by simp[hm]
  clear e hm;go_enter func25,ntmps25;go_wp2_with (go_at_call 50;refine(Bc base rb ro s b v L _ rd hb0 hb1 hle hrb own (by omega) hb).mono ?_;rintro e w1 ⟨v1,rfl,jR,NH,k1⟩);go_ret;exact⟨v1,rfl,jR,NH,k1⟩
 ·have hm':(s.m==0)=false:=by simp[hm]
  by_cases hlo:b<s.lo∨s.hi<b
  ·have e:s.take b=((s.fin.1.uC b).1,s.fin.2++(s.fin.1.uC b).2):=by simp[RS.take,hm,hlo]
   have hfl:(L++s.fin.2).length≤1000000000:=by
    have:s.fin.2.length≤1:=by unfold RS.fin;split<;>simp
    simp;omega
   rw[e];clear e hm;by_cases hlo1:b<s.lo
   ·clear hlo;go_enter func25,ntmps25;go_wp2_with fail;refine(GG base rb ro s v L _ rd own (by omega) hrb hb).mono ?_;rintro e w1 ⟨v1,rfl,jR,NH,k1⟩;have hb':base≤w1.heap.size:=by have:=k1.size;omega
    have hle1:qb w1:=hle.kl k1 (by omega) (own_ne own (by omega)) (by omega);go_wp2_with fail;refine(Bc base rb ro s.fin.1 b v1 (L++s.fin.2) _ NH hb0 hb1 hle1 hrb jR hfl hb').mono ?_;rintro e w2 ⟨v2,rfl,kM,rd2,k2⟩;go_wp2_with fail;go_ret;exact⟨v2,rfl,by simpa using kM,rd2,k1.trans k2⟩
   ·have hhi:s.hi<b:=by omega
    clear hlo;go_enter func25,ntmps25;go_wp2_with fail;refine(GG base rb ro s v L _ rd own (by omega) hrb hb).mono ?_;rintro e w1 ⟨v1,rfl,jR,NH,k1⟩;have hb':base≤w1.heap.size:=by have:=k1.size;omega
    have hle1:qb w1:=hle.kl k1 (by omega) (own_ne own (by omega)) (by omega);go_wp2_with fail;refine(Bc base rb ro s.fin.1 b v1 (L++s.fin.2) _ NH hb0 hb1 hle1 hrb jR hfl hb').mono ?_;rintro e w2 ⟨v2,rfl,kM,rd2,k2⟩;go_wp2_with fail;go_ret;exact⟨v2,rfl,by simpa using kM,rd2,k1.trans k2⟩
  ·have e:s.take b=s.join b:=by simp only[RS.take,hm,hlo,ou]
   rw[e];have h1:¬b<s.lo:=by omega
   have h2:¬s.hi<b:=by omega
   clear e hlo;have Hm:Hid (s.m≠0):=hm;clear hm;go_enter func25,ntmps25;go_wp2_with fail;refine(Np base rb ro s b v L _ rd hs Hm.o hb0 hb1 own (by omega) hrb hb).mono ?_;rintro e w1 ⟨v1,rfl,jR,NH,k1⟩;go_wp2_with fail;go_ret;exact⟨v1,rfl,jR,NH,k1⟩
theorem Nb(c:Int)(w:World):Calls prog 97 #[.int .i64 c] w fun e w'=>e= .returned (.bool (fe c))∧w=w':=by
 by_cases c1:64≤c
 ·by_cases c2:c≤126
  ·have e:fe c=true:=by simp[fe,c1,c2]
   rw[e];clear e;go_enter func97,ntmps97;go_wp2;go_ret;exact⟨rfl,rfl⟩
  ·have e:fe c=false:=by simp[fe,c2]
   have d2:decide (c≤126)=false:=by simp[c2]
   rw[e];clear e;go_enter func97,ntmps97;go_wp2;go_ret;exact⟨rfl,rfl⟩
 ·have e:fe c=false:=by simp[fe,c1]
  have d2:decide (64≤c)=false:=by simp[c1]
  rw[e];clear e;go_enter func97,ntmps97;go_wp2;go_ret;exact⟨rfl,rfl⟩
theorem ym(c:Int)(t:Bool)(w:World)(h:fe c=t):Calls prog 97 #[.int .i64 c] w fun e w'=>e= .returned (.bool t)∧w=w':=h▸Nb c w
theorem Nu(c:Int)(w:World):Calls prog 95 #[.int .i64 c] w fun e w'=>e= .returned (.bool (mU c))∧w=w':=by
 by_cases h0:c=63
 ·have e:mU c=true:=by simp[mU,h0]
  rw[e];clear e;subst h0;go_enter func95,ntmps95;go_wp2;go_ret;exact⟨rfl,rfl⟩
 ·by_cases h1:c=62
  ·have e:mU c=true:=by simp[mU,h1]
   rw[e];clear e;subst h1;clear h0;go_enter func95,ntmps95;go_wp2;go_ret;exact⟨rfl,rfl⟩
  ·by_cases h2:c=61
   ·have e:mU c=true:=by simp[mU,h2]
    rw[e];clear e;subst h2;clear h0 h1;go_enter func95,ntmps95;go_wp2;go_ret;exact⟨rfl,rfl⟩
   ·by_cases h3:c=60
    ·have e:mU c=true:=by simp[mU,h3]
     rw[e];clear e;subst h3;clear h0 h1 h2;go_enter func95,ntmps95;go_wp2;go_ret;exact⟨rfl,rfl⟩
    ·have e:mU c=false:=by simp[mU,h0,h1,h2,h3]
     have b0:(c==63)=false:=by simp[h0]
     have b1:(c==62)=false:=by simp[h1]
     have b2:(c==61)=false:=by simp[h2]
     have b3:(c==60)=false:=by simp[h3]
     rw[e];clear e h0 h1 h2 h3;go_enter func95,ntmps95;go_wp2;go_ret;exact⟨rfl,rfl⟩
theorem Ho(c:Int)(t:Bool)(w:World)(h:mU c=t):Calls prog 95 #[.int .i64 c] w fun e w'=>e= .returned (.bool t)∧w=w':=h▸Nu c w
theorem Sr(c:Int)(w:World):Calls prog 163 #[.int .i64 c] w fun e w'=>e= .returned (.bool (lC c))∧w=w':=by
 by_cases h0:c=93
 ·have e:lC c=true:=by simp[lC,h0]
  rw[e];clear e;subst h0;go_enter func163,ntmps163;go_wp2;go_ret;exact⟨rfl,rfl⟩
 ·by_cases h1:c=80
  ·have e:lC c=true:=by simp[lC,h1]
   rw[e];clear e;subst h1;clear h0;go_enter func163,ntmps163;go_wp2;go_ret;exact⟨rfl,rfl⟩
  ·by_cases h2:c=88
   ·have e:lC c=true:=by simp[lC,h2]
    rw[e];clear e;subst h2;clear h0 h1;go_enter func163,ntmps163;go_wp2;go_ret;exact⟨rfl,rfl⟩
   ·by_cases h3:c=94
    ·have e:lC c=true:=by simp[lC,h3]
     rw[e];clear e;subst h3;clear h0 h1 h2;go_enter func163,ntmps163;go_wp2;go_ret;exact⟨rfl,rfl⟩
    ·by_cases h4:c=95
     ·have e:lC c=true:=by simp[lC,h4]
      rw[e];clear e;subst h4;clear h0 h1 h2 h3;go_enter func163,ntmps163;go_wp2;go_ret;exact⟨rfl,rfl⟩
     ·have e:lC c=false:=by simp[lC,h0,h1,h2,h3,h4]
      have b0:(c==93)=false:=by simp[h0]
      have b1:(c==80)=false:=by simp[h1]
      have b2:(c==88)=false:=by simp[h2]
      have b3:(c==94)=false:=by simp[h3]
      have b4:(c==95)=false:=by simp[h4]
      rw[e];clear e h0 h1 h2 h3 h4;go_enter func163,ntmps163;go_wp2;go_ret;exact⟨rfl,rfl⟩
theorem Az(c:Int)(t:Bool)(w:World)(h:lC c=t):Calls prog 163 #[.int .i64 c] w fun e w'=>e= .returned (.bool t)∧w=w':=h▸Sr c w
theorem Oe(mb mo:Nat)(s:MS)(c:Int)(w:World)(h:kS w mb mo s):
 Calls prog 53 #[.pointer (some ⟨mb,mo,none⟩),.int .i64 c] w fun e w'=>e= .returned (.tuple #[])∧kS w' mb mo (s.skip c)∧Km mb mo w w':=by
 by_cases h1:c=7
 ·have e:s.skip c= .zero:=by simp[MS.skip,h1]
  rw[e];clear e;subst h1;go_enter func53,ntmps53;go_wp2_with (refine mV _ rfl (.tmp 12) (.tmp 11) rfl mb mo s .zero rfl _ rfl ?a1 jb h ?_)
  case a1=>rfl
  intro u hm hk _;go_wp2_with fail;go_end0;exact⟨rfl,hm,hk⟩
 ·by_cases h2:c=156
  ·have e:s.skip c= .zero:=by simp[MS.skip,h2]
   rw[e];clear e;subst h2;go_enter func53,ntmps53;go_wp2_with (refine mV _ rfl (.tmp 12) (.tmp 11) rfl mb mo s .zero rfl _ rfl ?a1 jb h ?_)
   case a1=>rfl
   intro u hm hk _;go_wp2_with fail;go_end0;exact⟨rfl,hm,hk⟩
  ·have e:s.skip c=s:=by simp[MS.skip,h1,h2]
   rw[e];clear e;have b1:(c==7)=false:=by simp[h1]
   have b2:(c==156)=false:=by simp[h2]
   clear h1 h2;go_enter func53,ntmps53;go_wp2_with fail;go_end0;exact⟨rfl,h,Km.refl _ _ _⟩
theorem Km.set(j:Nat)(x:Value)(hj:j<19):Km mb mo w (w.setCell ⟨mb,mo+j,none⟩ x):=by refine⟨rfl,rfl,rfl,by simp[World.setCell],fun k _ hn=>AQ _ _ _ _ hn,fun o ho=>dK _ _ _ _ _ (by omega),fun o=>?_⟩;simp
theorem kS.set{s':MS}(h:kS w mb mo s)(j:Nat)(x:Int)(hj:j<19)(hl:s'.l=s.l.set j x)(hp:s'.ps.length=16):kS (w.setCell ⟨mb,mo+j,none⟩ (.int .i64 x)) mb mo s':=by
 refine⟨hp,fun i v hv=>?_,fun i hi=>?_⟩
 ·rw[hl]at hv;have hlen:=h.Wd;have hi:i<19:=by have:=(gJ.1 hv).1;simp[eF,hlen]at this;exact this
  by_cases hij:j=i
  ·subst hij;have hv':(eF (s.l.set j x))[j]? =some (.int .i64 x):=by rw[jo _ _ (by simp[hlen];exact hj)];simp[List.getD,hlen,hj]
   rw[hv']at hv;cases hv;exact FZ _ _ _ (h.at j hj)
  ·rw[dK _ _ _ _ _ (by omega)];have:(eF (s.l.set j x))[i]? =(eF s.l)[i]? :=by simp only[eF,pW,List.getElem?_set_ne hij]
   rw[this]at hv;exact h.Cw i v hv
 ·simp only[World.frozen?_setCell];exact h.fr i hi
theorem kS.acS(h:kS w mb mo s)(k:Nat)(x:Int)(hk:k<16):kS (w.setCell ⟨mb,mo+3+k,none⟩ (.int .i64 x)) mb mo ⟨s.md,s.mr,s.ct,s.ps.set k x⟩:=by have:=h.set (s':=⟨s.md,s.mr,s.ct,s.ps.set k x⟩) (3+k) x (by omega) (by simp[MS.l,show 3+k=k+1+1+1 by omega]) (by simp[h.len]);rw[←Nat.add_assoc]at this;exact this
theorem kS.acQ(h:kS w mb mo s)(x:Int):kS (w.setCell ⟨mb,mo+2,none⟩ (.int .i64 x)) mb mo ⟨s.md,s.mr,x,s.ps⟩:=
 h.set (s':=⟨s.md,s.mr,x,s.ps⟩) 2 x (by omega) rfl h.len
theorem kS.acT(h:kS w mb mo s)(x:Int):kS (w.setCell ⟨mb,mo+1,none⟩ (.int .i64 x)) mb mo ⟨s.md,x,s.ct,s.ps⟩:=
 h.set (s':=⟨s.md,x,s.ct,s.ps⟩) 1 x (by omega) rfl h.len
theorem kS.acR(h:kS w mb mo s)(x:Int):kS (w.setCell ⟨mb,mo,none⟩ (.int .i64 x)) mb mo ⟨x,s.mr,s.ct,s.ps⟩:=
 h.set (s':=⟨x,s.mr,s.ct,s.ps⟩) 0 x (by omega) rfl h.len
theorem kS.drew(h:kS w mb mo s):kS w.drew mb mo s:=h.kept rfl
theorem Km.drew(h:Km mb mo w u):Km mb mo w u.drew:=⟨h.os,h.tape,h.output,h.size,h.block,h.cell,h.frozen⟩
theorem Ab(mb mo:Nat)(s:MS)(w:World)(h:kS w mb mo s)(h0:0≤s.ct)(h1:s.ct≤17):
 Calls prog 162 #[.pointer (some ⟨mb,mo,none⟩)] w fun e w'=>e= .returned (.tuple #[])∧kS w' mb mo s.jm∧Km mb mo w w':=by
 obtain⟨k,hk⟩:=Int.eq_ofNat_of_zero_le h0;have c2:=h.c2;have f2:=h.fr 2 (by omega);rw[hk]at c2;by_cases hlt:k<16
 ·have cp:=h.cp k hlt;have fp:=h.fr (3+k) (by omega);rw[←Nat.add_assoc]at fp;have hmin:min ((k:Int)+1) 17=(k:Int)+1:=by omega
  have e:s.jm=⟨s.md,s.mr,(k:Int)+1,s.ps.set k (-1)⟩:=by unfold MS.jm;rw[hk,ak (by omega),hmin];rfl
  have i1:(k:Int)<16:=by omega
  have R:kS ((w.setCell ⟨mb,mo+3+k,none⟩ (.int .i64 (-1))).setCell ⟨mb,mo+2,none⟩ (.int .i64 ((k:Int)+1))) mb mo s.jm:=by rw[e];exact(h.acS k (-1) hlt).acQ _
  have K:Km mb mo w ((w.setCell ⟨mb,mo+3+k,none⟩ (.int .i64 (-1))).setCell ⟨mb,mo+2,none⟩ (.int .i64 ((k:Int)+1))):=by have k1:Km mb mo w (w.setCell ⟨mb,mo+(3+k),none⟩ (.int .i64 (-1))):=Km.set (3+k) _ (by omega);rw[←Nat.add_assoc]at k1;exact k1.trans (Km.set 2 _ (by omega))
  clear e hk;go_enter func162,ntmps162;go_wp2_with fail;go_region
  all_goals go_wp2_with fail
  all_goals go_end0
  all_goals exact⟨rfl,R.drew,K.drew⟩
 ·have hmin:min ((k:Int)+1) 17=17:=by omega
  have e:s.jm=⟨s.md,s.mr,17,s.ps⟩:=by unfold MS.jm;rw[hk,ai (by omega),hmin]
  have i1:¬(k:Int)<16:=by omega
  have R:kS (w.setCell ⟨mb,mo+2,none⟩ (.int .i64 17)) mb mo s.jm:=by rw[e];exact h.acQ _
  have K:Km mb mo w (w.setCell ⟨mb,mo+2,none⟩ (.int .i64 17)):=Km.set 2 _ (by omega);have ai9:k≤17:=by omega
  clear e hk;rcases(show k=16∨k=17 by omega)with rfl|rfl
  ·clear i1 hmin;go_enter func162,ntmps162;go_wp2_with fail;go_end0;exact⟨rfl,R,K⟩
  ·clear i1 hmin;go_enter func162,ntmps162;go_wp2_with fail;go_end0;exact⟨rfl,R,K⟩
theorem EY(mb mo:Nat)(s:MS)(d:Int)(w:World)(h:kS w mb mo s)(hs:s.ok)(h1:1≤s.ct)(hd0:0≤d)(hd1:d≤9):
 Calls prog 164 #[.pointer (some ⟨mb,mo,none⟩),.int .i64 d] w fun e w'=>e= .returned (.tuple #[])∧kS w' mb mo (s.jF d)∧Km mb mo w w':=by
 have c2:=h.c2;have h17:=hs.c1;by_cases hgt:16<s.ct
 ·have e:s.jF d=s:=by simp[MS.jF,hgt]
  rw[e];clear e;go_enter func164,ntmps164;go_wp2_with fail;refine bX (dz rfl _ _ _) rfl ?_;exact⟨rfl,h,Km.refl _ _ _⟩
 ·obtain⟨k,hk⟩:=Int.eq_ofNat_of_zero_le (show 0≤s.ct-1 by omega);have hk1:s.ct=(k:Int)+1:=by omega
  have ab5:k<16:=by omega
  have cp:=h.cp k ab5;have fp:=h.fr (3+k) (by omega);rw[←Nat.add_assoc]at fp;have hx:=L6 hs.p k;have e:s.jF d=⟨s.md,s.mr,s.ct,s.ps.set k (min (max (s.ps.getD k 0) 0*10+d) 65535)⟩:=by unfold MS.jF;rw[ai hgt,hk];rfl
  have R:kS (w.setCell ⟨mb,mo+3+k,none⟩ (.int .i64 (min (max (s.ps.getD k 0) 0*10+d) 65535))) mb mo (s.jF d):=by rw[e];exact h.acS k _ ab5
  have K:Km mb mo w (w.setCell ⟨mb,mo+3+k,none⟩ (.int .i64 (min (max (s.ps.getD k 0) 0*10+d) 65535))):=by have k1:Km mb mo w (w.setCell ⟨mb,mo+(3+k),none⟩ (.int .i64 (min (max (s.ps.getD k 0) 0*10+d) 65535))):=Km.set (3+k) _ (by omega);rw[←Nat.add_assoc]at k1;exact k1
  rw[hk1]at c2;have i1:(k:Int)<16:=by omega
  have hg2:¬16<(k:Int)+1:=by omega
  generalize s.ps.getD k 0=x at*;clear e hk hk1 hgt h17;rcases(show x<0∨x=0∨0<x by omega)with hx0|rfl|hx0
  ·have ez:min (max x 0*10+d) 65535=d:=by omega
   rw[ez]at R K;clear ez;have hd:d≤65535:=by omega
   go_enter func164,ntmps164;go_wp2_with fail;go_region
   all_goals go_wp2_with fail
   all_goals go_region
   all_goals go_wp2_with fail
   all_goals go_end0
   all_goals exact⟨rfl,R.kept rfl,K.trans ⟨rfl,rfl,rfl,bN _,fun _ _ _=>rfl,fun _ _=>rfl,fun _=>rfl⟩⟩
  ·have ez:min (max 0 0*10+d) 65535=d:=by omega
   rw[ez]at R K;clear ez;have hd:d≤65535:=by omega
   go_enter func164,ntmps164;go_wp2_with fail;go_region
   all_goals go_wp2_with fail
   all_goals go_region
   all_goals go_wp2_with fail
   all_goals go_end0
   all_goals exact⟨rfl,R.kept rfl,K.trans ⟨rfl,rfl,rfl,bN _,fun _ _ _=>rfl,fun _ _=>rfl,fun _=>rfl⟩⟩
  ·have hx1:0≤x:=by omega
   by_cases hbig:x*10+d≤65535
   ·have ez:min (max x 0*10+d) 65535=x*10+d:=by omega
    rw[ez]at R K;clear ez;go_enter func164,ntmps164;go_wp2_with fail;go_region
    all_goals go_wp2_with fail
    all_goals go_region
    all_goals go_wp2_with fail
    all_goals go_end0
    all_goals exact⟨rfl,R.kept rfl,K.trans ⟨rfl,rfl,rfl,bN _,fun _ _ _=>rfl,fun _ _=>rfl,fun _=>rfl⟩⟩
   ·have ez:min (max x 0*10+d) 65535=65535:=by omega
    rw[ez]at R K;clear ez;go_enter func164,ntmps164;go_wp2_with fail;go_region
    all_goals go_wp2_with fail
    all_goals go_region
    all_goals go_wp2_with fail
    all_goals go_end0
    all_goals exact⟨rfl,R.kept rfl,K.trans ⟨rfl,rfl,rfl,bN _,fun _ _ _=>rfl,fun _ _=>rfl,fun _=>rfl⟩⟩
theorem acp{l:List Int}(h:l.length=16):∃p0 p1 p2 p3 p4 p5 p6 p7 p8 p9 p10 p11 p12 p13 p14 p15,l=[p0,p1,p2,p3,p4,p5,p6,p7,p8,p9,p10,p11,p12,p13,p14,p15]:=by
 match l,h with
 | [p0,p1,p2,p3,p4,p5,p6,p7,p8,p9,p10,p11,p12,p13,p14,p15],_=>exact⟨_,_,_,_,_,_,_,_,_,_,_,_,_,_,_,_,rfl⟩
theorem mixed:prog.follows .mixedOrders=true:=by kernel_rfl
theorem zR{P:Program}{Q:Act→Prop}{a:Act}{o:Oper}(hgd:o.guard=none)(ty:TypeId)(x:Operand)(ho:o.op= .load ty x)(b off:Nat)(hx:a.eval x= .pointer (some ⟨b,off,none⟩))(cs:List Value)(d:TypeDesc)(hc:w.rangeAt b off cs)(hu:P.underlying ty=some d)(hd:d.isRow=true)(hi:(P.info? ty).map (·.size)=some cs.length)(h:wpStill P ops w Q rest (a.put o.dst (.agg cs.toArray))):wpStill P ops w Q (o::rest) a:=by
 refine wpStill_step fun K hK=>?_;have hw:Region.wanted o (yielded ops a.tmps)=true:=by simp[Region.wanted,hgd]
 rw[ak hw];unfold Oper.still execOp;simp only[ho,hx,Instr.loadAt,Instr.sureAddr,jV,mK,jU,run_loadVar_mid w b off ty cs d hc hu hd hi,Oper.stillUpon];exact⟨trivial,hK _ h⟩
theorem Ox{g:Nat}{ev:List Int}{t:TypeId}(h:w.heap[g]? =some (.cells (aA ev) t (0,0))):w.there g 0 ev.length:=fun j hj=>by refine⟨?_,oh w g _ _ t h⟩;rw[bG _ _ _ _ _ _ h];simp[aA,eF,hj]
theorem QX:(prog.info? 44).map (·.size)=some 16:=by kernel_rfl
theorem KD(mb mo:Nat)(s:MS)(f:Int)(w:World)(h:kS w mb mo s)(hs:s.ok)(h1:1≤s.ct):
 Calls prog 165 #[.pointer (some ⟨mb,mo,none⟩),.int .i64 f] w fun e w'=>e= .returned (.agg (aA (s.nA f)))∧Below w.heap.size w w':=by
 have c1:=h.c1;have c2:=h.c2;have hlt:=h.lt;have h17:=hs.c1;have rg:w.rangeAt mb (mo+3) (eF s.ps):=fun j v hv=>by
  have hj:j<16:=by have:=(gJ.1 hv).1;simpa[eF,h.len]using this
  rw[jo _ _ (by rw[h.len];exact hj)]at hv;rw[h.cp j hj];exact hv
 obtain⟨p0,p1,p2,p3,p4,p5,p6,p7,p8,p9,p10,p11,p12,p13,p14,p15,hp⟩:=acp h.len;have e:s.nA f=[4,0,s.mr,f,min s.ct 16,p0,p1,p2,p3,p4,p5,p6,p7,p8,p9,p10,p11,p12,p13,p14,p15]:=by unfold MS.nA;rw[hp];rfl
 rw[hp]at rg;have rg':w.rangeAt mb (mo+3) [.int .i64 p0,.int .i64 p1,.int .i64 p2,.int .i64 p3,.int .i64 p4,.int .i64 p5,.int .i64 p6,.int .i64 p7,.int .i64 p8,.int .i64 p9,.int .i64 p10,.int .i64 p11,.int .i64 p12,.int .i64 p13,.int .i64 p14,.int .i64 p15]:=rg;have HE:Hid _:=e;clear e rg hp;have hu:=underlying44;have hi:=QX;go_enter func165,ntmps165;go_wp2_with fail;generalize hW:w.alloc (Obj.cells #[.int .i64 0,.int .i64 0,.int .i64 0,.int .i64 0,.int .i64 0,.int .i64 0,.int .i64 0,.int .i64 0,.int .i64 0,.int .i64 0,.int .i64 0,.int .i64 0,.int .i64 0,.int .i64 0,.int .i64 0,.int .i64 0,.int .i64 0,.int .i64 0,.int .i64 0,.int .i64 0,.int .i64 0] 46)=W;have Zi:W=w.alloc (.cells (aA aO) 46):=hW.symm;have d1:W.cell? ⟨mb,mo+1,none⟩=some (.int .i64 s.mr):=by rw[Zi];exact(dA (gK _ _ _ hlt)).trans c1
 have d2:W.cell? ⟨mb,mo+2,none⟩=some (.int .i64 s.ct):=by rw[Zi];exact(dA (gK _ _ _ hlt)).trans c2
 have d3:W.rangeAt mb (mo+3) [.int .i64 p0,.int .i64 p1,.int .i64 p2,.int .i64 p3,.int .i64 p4,.int .i64 p5,.int .i64 p6,.int .i64 p7,.int .i64 p8,.int .i64 p9,.int .i64 p10,.int .i64 p11,.int .i64 p12,.int .i64 p13,.int .i64 p14,.int .i64 p15]:=by rw[Zi];exact World.rangeAt_alloc rg' _
 have hg:W.heap[w.heap.size]? =some (.cells (aA aO) 46 (0,0)):=by rw[Zi];exact bV _ _
 have d4:W.there w.heap.size 0 21:=Ox hg;have bl0:Below w.heap.size w W:=by rw[Zi];exact(dU _ _).alloc (bN _) _
 have HG:Hid _:=hg;clear hW Zi rg' c1 c2 hg;clear hu hi;have hmin:min s.ct 16=if 16<s.ct then 16 else s.ct:=by split<;>omega
 have ev:s.nA f=[4,0,s.mr,f,if 16<s.ct then 16 else s.ct,p0,p1,p2,p3,p4,p5,p6,p7,p8,p9,p10,p11,p12,p13,p14,p15]:=by rw[HE.o,hmin]
 have HV:Hid _:=ev;clear ev hmin;refine wp_region_still_tail 15 mixed (by kernel_rfl) ?_;simp only[List.take_succ_cons,List.take_zero,AP,List.drop_zero]
 iterate 13 still_step
 refine zR rfl 44 (.tmp 17) rfl mb (mo+3) rfl [.int .i64 p0,.int .i64 p1,.int .i64 p2,.int .i64 p3,.int .i64 p4,.int .i64 p5,.int .i64 p6,.int .i64 p7,.int .i64 p8,.int .i64 p9,.int .i64 p10,.int .i64 p11,.int .i64 p12,.int .i64 p13,.int .i64 p14,.int .i64 p15] _ d3 underlying44 rfl QX ?_
 still_step
 refine wpStill_nil ?_;refine b_ _ rfl (.tmp 4) (.tmp 19) rfl w.heap.size aO [4,0,s.mr,f,if 16<s.ct then 16 else s.ct,p0,p1,p2,p3,p4,p5,p6,p7,p8,p9,p10,p11,p12,p13,p14,p15] rfl _ rfl rfl rfl 46 HG.o rfl ?_;intro u hg hgr hz;have bl1:Below w.heap.size w u:=(bl0.drew).grown hgr bl0.size (fun k e=>by simp at e;omega);clear d1 d2 d3 d4;go_wp2_with fail
 all_goals refine bX (iF results165 _ u w.heap.size _ rfl 46 (0,0) rfl hg) rfl ?_
 all_goals rw[HV.o]
 all_goals exact⟨rfl,bl1⟩
end Go.Proofs.YtheibfffilomcaaGreatDoor
