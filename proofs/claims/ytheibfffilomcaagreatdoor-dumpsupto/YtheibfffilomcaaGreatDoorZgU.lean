import Derived.Test.YtheibfffilomcaaGreatDoorTmaU
import Derived.Test.YtheibfffilomcaaGreatDoorXeU
import Derived.Test.YtheibfffilomcaaGreatDoorUcU
import Derived.Test.YtheibfffilomcaaGreatDoorVtU
import Derived.Deep.DeepCutAuto
import Derived.Test.YtheibfffilomcaaGreatDoorVcU
import Derived.Test.YtheibfffilomcaaGreatDoorWdU
set_option linter.all false
set_option maxRecDepth 100000
set_option maxHeartbeats 4000000
namespace Go.Proofs.YtheibfffilomcaaGreatDoor
open Go.RowKit Go.Proofs.Tryz
variable {w w':World} {wb:Nat} {L:Lay} {x:WS} {a:Act}
theorem AB{ops:Array Oper}{rest:List Oper}{o:Oper}{u:World}{Q:Exit→Act→World→Prop}(hgd:o.guard=none)(v:Value)(h:(execOp a.eval o).run prog u= .ok (.value v) u)(hK:wpList prog ops Q rest (a.put o.dst v) u):wpList prog ops Q (o::rest) a u:=
 oq hgd fun K hK'=>by simp only[Oper.wp,h,Oper.upon];exact hK' _ _ hK
def wG (q p:fO):List Int:=if p=q then[]else[27,91]++(48::(oD p++[109]))
theorem BG(q p:fO)(hp:p.Ok):(wG q p).length≤20:=by
 have d:∀n:Int,(jB n).length≤2:=fun n=>by unfold jB;split<;>simp
 have d1:=d (p.f-1);have d2:=d (p.k-1);unfold wG oD;split
 ·simp
 ·simp only[fU,fE,eP]
  (repeat' split)<;>simp only[fU,fE,eP]<;>omega
theorem uT(q p:fO)(hp:p.Ok)(w:World):Calls prog 142 #[.agg (aW q),.agg (aW p)] w fun e w'=>∃s:ByteArray,e= .returned (.string s)∧bl s=wG q p∧Sm w w':=by
 have nK:Hid (((w.alloc (.cells (aW q) 80)).alloc (.cells (aW p) 80)).heap[w.heap.size]? =some (.cells (aW q) 80 (0,0))):=(gK _ _ _ (by simp)).trans (bV _ _);have nZ:Hid (((w.alloc (.cells (aW q) 80)).alloc (.cells (aW p) 80)).heap[w.heap.size+1]? =some (.cells (aW p) 80 (0,0))):=gG w _ _;have oG:Hid (Sm w ((w.alloc (.cells (aW q) 80)).alloc (.cells (aW p) 80))):=((Ch.refl _ _).alloc _).alloc _;have LD:Hid (∀u,Sm ((w.alloc (.cells (aW q) 80)).alloc (.cells (aW p) 80)) u→u.cell? ⟨w.heap.size+1,0,none⟩=some (.bool p.b)∧u.cell? ⟨w.heap.size+1,1,none⟩=some (.bool p.u)∧u.cell? ⟨w.heap.size+1,2,none⟩=some (.bool p.t)∧u.cell? ⟨w.heap.size+1,3,none⟩=some (.int .i64 p.f)∧u.cell? ⟨w.heap.size+1,4,none⟩=some (.int .i64 p.k)):=fun u hu=>by have g:=(hu.block _ (aK nZ.o) id).trans nZ.o;exact⟨(bG _ _ _ _ _ _ g).trans rfl,(bG _ _ _ _ _ _ g).trans rfl,(bG _ _ _ _ _ _ g).trans rfl,(bG _ _ _ _ _ _ g).trans rfl,(bG _ _ _ _ _ _ g).trans rfl⟩
 have DE:∀x:Int,0≤x→x<100→∀u,Calls prog 67 #[.int .i64 x] u fun e w'=>∃s:ByteArray,e= .returned (.string s)∧bl s=jB x∧s.size≤2∧Sm u w':=fun x a b u=>by obtain⟨n,rfl⟩:∃n:Nat,x=(n:Int):=⟨x.toNat,by omega⟩;exact(yj n (by omega) u).mono fun e w' h=>by obtain⟨s,h1,h2,h3⟩:=h;exact⟨s,h1,h2,by rw[←cZ,h2];unfold jB;split<;>simp,h3⟩
 have Zr:Hid _:=DE;clear DE;obtain⟨pf0,pf8,pk0,pk8⟩:=hp;by_cases heq:p=q
 ·have b1:Hid (decide (p=q)=true):=iP heq;have HEQ:Hid _:=heq;clear heq;go_enter func142,ntmps142;go_wp2_with (first|(refine fC rfl 80 (.tmp 3) rfl (w.heap.size+1) rfl 80 (aW p) (0,0) _ nZ.o underlying80 rfl eH ?_)|(refine fC rfl 80 (.tmp 2) rfl w.heap.size rfl 80 (aW q) (0,0) _ nK.o underlying80 rfl eH ?_)|(refine AB rfl (.bool true) (by rw[←b1.o];exact BU (.tmp 6) (.tmp 7) rfl p q rfl rfl _) ?_));go_ret;exact⟨_,rfl,by unfold wG;rw[ak HEQ.o];kernel_rfl,oG.o⟩
 have b1:decide (p=q)=false:=jh heq;go_enter func142,ntmps142;go_upto_if 8 with(first|(refine fC rfl 80 (.tmp 3) rfl (w.heap.size+1) rfl 80 (aW p) (0,0) _ nZ.o underlying80 rfl eH ?_)|(refine fC rfl 80 (.tmp 2) rfl w.heap.size rfl 80 (aW q) (0,0) _ nK.o underlying80 rfl eH ?_)|(refine AB rfl (.bool false) (by rw[←b1];exact BU (.tmp 6) (.tmp 7) rfl p q rfl rfl _) ?_));have lc:=LD.o _ (Ch.refl _ _);have cb:=lc.1;have HL0:Hid (bl (⟨#[27,91,48]⟩:ByteArray)=[27,91,48]):=by show _=_;kernel_rfl
 clear lc;go_upto_if 10 with fail;go_cut [5] from 9 to 12 (fun s5 wc=>∃s:ByteArray,s5= .string s∧bl s=[27,91,48]++(if p.b then[59,49]else[])∧s.size≤5∧Sm ((w.alloc (.cells (aW q) 80)).alloc (.cells (aW p) 80)) wc)
 case first=>
  have z0:(⟨#[27,91,48]⟩:ByteArray).size=3:=rfl;have e1:bl (⟨#[59,49]⟩:ByteArray)=[59,49]:=by kernel_rfl
  cases hb:p.b with
  |true=>
   go_wp2_with fail;go_meet;refine⟨_,rfl,?_,?_,Ch.refl _ _⟩
   ·rw[aL,HL0.o,e1,hb];rfl
   ·rw[iC];show _+2≤_;omega
  |false=>go_wp2_with fail;go_meet;exact⟨_,rfl,by rw[HL0.o,hb];simp,by first|omega|(simp;omega),Ch.refl _ _⟩
 case rest=>
  generalize hwc:wc=wc1 at*;clear hwc wc;obtain⟨t1,rfl,abP,hz1,hs1⟩:=hcut;have HL1:Hid _:=abP;have wu:Hid _:=hs1;have lc:=LD.o _ hs1;have cu:=lc.2.1;clear lc abP hs1;go_upto_if 14 with fail;go_cut [5] from 13 to 16 (fun s5 wc=>∃s:ByteArray,s5= .string s∧bl s=[27,91,48]++(if p.b then[59,49]else[])++(if p.u then[59,52]else[])∧s.size≤7∧Sm ((w.alloc (.cells (aW q) 80)).alloc (.cells (aW p) 80)) wc)
  case first=>
   have e1:bl (⟨#[59,52]⟩:ByteArray)=[59,52]:=by kernel_rfl
   cases hb:p.u with
   |true=>
    go_wp2_with fail;go_meet;refine⟨_,rfl,?_,?_,wu.o⟩
    ·rw[aL,HL1.o,e1,hb];rfl
    ·rw[iC];show _+2≤_;omega
   |false=>go_wp2_with fail;go_meet;exact⟨_,rfl,by rw[HL1.o,hb];simp,by first|omega|(simp;omega),wu.o⟩
  case rest=>
   generalize hwc:wc=OB at*;clear hwc wc;obtain⟨t2,rfl,abQ,hz2,hs2⟩:=hcut;have HL2:Hid _:=abQ;have HS2:Hid _:=hs2;have lc:=LD.o _ hs2;have ct:=lc.2.2.1;clear lc abQ hs2;go_upto_if 18 with fail;go_cut [5] from 17 to 20 (fun s5 wc=>∃s:ByteArray,s5= .string s∧bl s=[27,91,48]++(if p.b then[59,49]else[])++(if p.u then[59,52]else[])++(if p.t then[59,55]else[])∧s.size≤9∧Sm ((w.alloc (.cells (aW q) 80)).alloc (.cells (aW p) 80)) wc)
   case first=>
    have e1:bl (⟨#[59,55]⟩:ByteArray)=[59,55]:=by kernel_rfl
    cases hb:p.t with
    |true=>
     go_wp2_with fail;go_meet;refine⟨_,rfl,?_,?_,HS2.o⟩
     ·rw[aL,HL2.o,e1,hb];rfl
     ·rw[iC];show _+2≤_;omega
    |false=>go_wp2_with fail;go_meet;exact⟨_,rfl,by rw[HL2.o,hb];simp,by first|omega|(simp;omega),HS2.o⟩
   case rest=>
    generalize hwc:wc=K3 at*;clear hwc wc;obtain⟨t3,rfl,abR,hz3,hs3⟩:=hcut;have HL3:Hid _:=abR;have Cr:Hid _:=hs3;have lc:=LD.o _ hs3;have cf:=lc.2.2.2.1;clear lc abR hs3;go_upto_if 23 with fail;go_cut [5] from 21 to 30 (fun s5 wc=>∃s:ByteArray,s5= .string s∧bl s=[27,91,48]++(if p.b then[59,49]else[])++(if p.u then[59,52]else[])++(if p.t then[59,55]else[])++(if p.f≠0 then[59,51]++jB (p.f-1)else[])∧s.size≤13∧Sm ((w.alloc (.cells (aW q) 80)).alloc (.cells (aW p) 80)) wc)
    case first=>
     have e1:bl (⟨#[59,51]⟩:ByteArray)=[59,51]:=by kernel_rfl
     by_cases hf:0<p.f
     ·have vw:IntKind.i64.wrap (p.f-1)=p.f-1:=bD _ (by omega);go_wp2_with fail;refine Calls.mono (Zr.o (p.f-1) (by omega) (by omega) _) ?_;rintro e w9 ⟨s9,rfl,hb9,z9,Wn⟩;have HS9:Hid (Sm ((w.alloc (.cells (aW q) 80)).alloc (.cells (aW p) 80)) w9):=Cr.o.trans Wn;clear Wn;go_wp2_with fail;go_meet;refine⟨_,rfl,?_,?_,HS9.o⟩
      ·rw[aL,aL,HL3.o,e1,hb9,ak (show p.f≠0 by omega)];simp
      ·rw[iC,iC];show _+2+_≤_;omega
     ·have n1:decide (0<p.f)=false:=by simp;omega
      go_wp2_with fail;go_meet;exact⟨_,rfl,by rw[HL3.o,ai (show¬p.f≠0 by omega)];simp,by first|omega|(simp;omega),Cr.o⟩
    case rest=>
     generalize hwc:wc=Tm at*;clear hwc wc;obtain⟨t4,rfl,abS,FU,hs4⟩:=hcut;have HL4:Hid _:=abS;have HS4:Hid _:=hs4;have lc:=LD.o _ hs4;have ck:=lc.2.2.2.2;clear lc abS hs4;go_upto_if 33 with fail;go_cut [5] from 31 to 40 (fun s5 wc=>∃s:ByteArray,s5= .string s∧bl s=[27,91,48]++(if p.b then[59,49]else[])++(if p.u then[59,52]else[])++(if p.t then[59,55]else[])++(if p.f≠0 then[59,51]++jB (p.f-1)else[])++(if p.k≠0 then[59,52]++jB (p.k-1)else[])∧s.size≤17∧Sm ((w.alloc (.cells (aW q) 80)).alloc (.cells (aW p) 80)) wc)
     case first=>
      have e1:bl (⟨#[59,52]⟩:ByteArray)=[59,52]:=by kernel_rfl
      by_cases hf:0<p.k
      ·have vw:IntKind.i64.wrap (p.k-1)=p.k-1:=bD _ (by omega);go_wp2_with fail;refine Calls.mono (Zr.o (p.k-1) (by omega) (by omega) _) ?_;rintro e w9 ⟨s9,rfl,hb9,z9,Wn⟩;have HS9:Hid (Sm ((w.alloc (.cells (aW q) 80)).alloc (.cells (aW p) 80)) w9):=HS4.o.trans Wn;clear Wn;go_wp2_with fail;go_meet;refine⟨_,rfl,?_,?_,HS9.o⟩
       ·rw[aL,aL,HL4.o,e1,hb9,ak (show p.k≠0 by omega)];simp
       ·rw[iC,iC];show _+2+_≤_;omega
      ·have n1:decide (0<p.k)=false:=by simp;omega
       go_wp2_with fail;go_meet;exact⟨_,rfl,by rw[HL4.o,ai (show¬p.k≠0 by omega)];simp,by first|omega|(simp;omega),HS4.o⟩
     case rest=>
      generalize hwc:wc=El at*;clear hwc wc;obtain⟨t5,rfl,abT,hz5,hs5⟩:=hcut;have HL5:Hid _:=abT;have HS5:Hid _:=hs5;have lc:=LD.o _ hs5;skip;clear lc abT hs5;go_wp2_with fail;go_ret;refine⟨_,rfl,?_,oG.o.trans HS5.o⟩;have e9:bl (⟨#[109]⟩:ByteArray)=[109]:=by kernel_rfl
      rw[aL,HL5.o,e9];unfold wG oD;rw[ai heq];simp only[f_,xV,mP]
structure Wr (w:World) (wb:Nat) (L:Lay) (s:TS) (x:WS):Prop where
 wr:iK w wb L.tb x
 te:cO w L s
 lo:∀k,L.own k→k<wb
theorem Wr.step{s:TS}{x':WS}(h:Wr w wb L s x)(k:Wk wb w w')(hw:iK w' wb L.tb x'):Wr w' wb L s x':=
 ⟨hw,h.te.kept (P:=fun k=>wb≤k) ⟨k.b.os,k.b.tape,k.b.output,k.b.size,fun i _ hn=>k.b.block i (by omega)⟩ (fun i hi hn=>by have:=h.lo i hi;omega),h.lo⟩
theorem Wr.keep{s:TS}(h:Wr w wb L s x)(c:Below w.heap.size w w'):Wr w' wb L s x:=⟨h.wr.keep c,h.te.sm (Ch.of_below c),h.lo⟩
theorem Sm.iB(h:Sm w w'):Below w.heap.size w w':=h.below (bN _) (fun _ _ h=>h)
theorem Wr.c0{s:TS}(h:Wr w wb L s x):w.cell? ⟨wb,0,none⟩=some (.pointer (some ⟨L.tb,0,none⟩)):=by obtain⟨p,v,h1,_⟩:=h.wr.ex;exact(bG _ _ _ _ _ _ h1).trans rfl
theorem Wr.lt{w:World}{wb:Nat}{L:Lay}{s:TS}{x:WS}(h:Wr w wb L s x):wb<w.heap.size:=h.wr.lt
theorem Wr.drew{s:TS}(h:Wr w wb L s x)(n:Nat):Wr (w.drewN n) wb L s x:=h.keep ⟨rfl,rfl,rfl,bN _,fun _ _=>rfl⟩
theorem lD.ack{base:Nat}{v:Value}{L:List Int}(h:lD w base v L)(hb:∀k,v.ownBlock=some k→w'.heap[k]? =w.heap[k]?):lD w' base v L:=by
 obtain⟨h1,h2⟩:=h;refine⟨h1,?_⟩;rcases h2 with h2|⟨g,cap,cur,hv,hg,hk,r⟩
 ·exact .inl h2
 ·exact .inr ⟨g,cap,cur,hv,hg,(hb g (by rw[hv];rfl)).trans hk,r⟩
theorem Wr.set{s:TS}{g:Nat}{cs:Array Value}{t:TypeId}{fr:Nat × Nat}(h:Wr w wb L s x)(k:Ch (· =g) w w')(hg:w.heap[g]? =some (.cells cs t fr))(ht:t≠5)(hgw:wb<g):Wr w' wb L s x:=by obtain⟨p,v,q1,q2,q3⟩:=h.wr.ex;refine⟨⟨⟨p,v,(k.block wb (aK q1) (by omega)).trans q1,q2,q3.ack (fun i hi=>?_)⟩,h.wr.Xx⟩,h.te.kept k (fun i hi e=>by have:=h.lo i hi;omega),h.lo⟩;obtain⟨cur,hc⟩:=q3.nb hi;refine k.block i (aK hc) (fun e=>?_);subst e;rw[hg]at hc;injection hc with e;injection e with _ e2 _;exact ht e2
theorem Ii{o:Oper}(x y:Operand)(ho:o.op= .binOp .neq 101 x y 101)(c d:aI)(hx:a.eval x= .agg (dw c))(hy:a.eval y= .agg (dw d))(w:World):(execOp a.eval o).run prog w= .ok (.value (.bool (!decide (c=d)))) w:=by unfold execOp;simp only[ho,hx,hy,jV,QF,afU,jU,mK]
theorem yE(x:WS)(r:Int)(k:Nat)(b c:aI):(x.jL r k b c).tx.length≤x.tx.length+32:=by
 unfold WS.jL;split
 ·omega
 ·split
  ·have:=yg (x.place r k) c;have:=mG x r k;omega
  ·have:=yg x c;omega
theorem yG(r:Int):∀(l:List aI) (x:WS) (k:Nat) (b:aI),(WS.runs r x k b l).tx.length≤x.tx.length+32*l.length:=by
 intro l;induction l with
 |nil=>intro x k b;exact Nat.le_add_right _ _
 |cons c l ih=>intro x k b;have h1:=ih (x.jL r k b c) (k+1) c;have h2:=yE x r k b c;show(WS.runs r (x.jL r k b c) (k+1) c l).tx.length≤_;simp only[fE];omega
theorem Vs(wb:Nat)(L:Lay)(s:TS)(hI:s.Inv)(n i:Nat)(hn:n<2)(hi:i<s.rows)(R:List aI)(hR:R=(if n=0 then s.s0 else s.s1).getD i [])(hRl:R.length=s.ah)(hRo:∀c∈R,c.part=2∨c.Ok)(x:WS)(w:World)(h:Wr w wb L s x)(hx:x.tx.length≤400000000):
 Calls prog 202 #[.pointer (some ⟨wb,0,none⟩),.int .i64 (n:Int),.int .i64 (i:Int)] w fun e w'=>e= .returned (.tuple #[])∧iK w' wb L.tb (WS.runs i x 0 aD R)∧Wk wb w w':=by
 have c0:=h.c0;have hlt:=h.lt;have l1:=sF L s w h.te hI;have l2:=oH w;have hc2:=hI.c2;have hr2:=hI.r2;have HWr:Hid _:=h;have HI:Hid _:=hI;have HR:Hid _:=hR;clear h hI hR;go_enter func202,ntmps202;go_wp2_with (go_at_call 147;refine l1.mono ?_;rintro e w1 ⟨rfl,hw1⟩;have hw2:=hw1.symm;subst hw2);refine l2.mono ?_;rintro e w1 ⟨rfl,b1⟩;go_wp2_with (refine bK _ rfl 101 (.tmp 8) (.tmp 19) rfl w1.heap.size (cellV nG) (cellV aD) rfl _ rfl rfl 101 (bV _ _) rfl g_ (jW _) ?_);intro y1 g1 k1 z1;have B1:Below w.heap.size w y1:=by have b2:=b1.alloc b1.size (.cells (dw nG) 101);exact b2.trans (k1.below (by simp;have:=b1.size;omega) (fun k hk e=>by have:=b1.size;omega))
 have hbw:w.heap.size≤w1.heap.size:=b1.size;obtain⟨bB,hbB⟩:∃bB,bB=w1.heap.size:=⟨_,rfl⟩;rw[←hbB];rw[←hbB]at g1;have hwb:wb<bB:=by omega
 have ai2:w.heap.size≤bB:=by omega
 have HG:Hid _:=g1;have HB1:Hid _:=B1;clear g1 k1 z1 b1 hbB B1 l1 l2 c0;go_wp2_with fail;go_loopw [21] (fun j wr=>∃(k:Nat) (x':WS) (bf:aI),k≤s.ah∧j= .int .i64 k∧Hid (Wr wr wb L s x')∧Hid (wr.heap[bB]? =some (.cells (cellV bf).toArray 101 (0,0)))∧Hid (WS.runs i x 0 aD R=WS.runs i x' k bf (R.drop k))∧x'.tx.length≤x.tx.length+32*k∧Hid (Wk wb w wr)) (fun j _=>s.ah-(intOf j).toNat)
 case atStart=>exact⟨0,x,aD,dx _,rfl,HWr.o.keep HB1.o,HG.o,rfl,bN _,Wk.of_below HB1.o (kW hlt)⟩
 case round=>
  clear HG HB1;obtain⟨k,x',bf,hk,rfl,HX,HG,HE,hxl,HK⟩:=hrel;by_cases hkc:k<s.ah
  ·have YE:(k:Int)<(s.ah:Int):=by omega
   have vk:IntKind.i64.wrap ((k:Int)+1)=(k:Int)+1:=bD _ (by omega);have c0:=HX.o.c0;have hwl:=HX.o.lt;have l3:=sI L s n i k hn hi hkc wr HX.o.te HI.o;have hRk:R[k]? =some (s.cellAt n i k):=by
    have:k<R.length:=by omega
    unfold TS.cellAt;rw[←HR.o];simp[List.getD,eG this]
   generalize s.cellAt n i k=c at*;have HRk:Hid _:=hRk;have hcO:c.part=2∨c.Ok:=hRo c (iH hRk);have HCO:Hid _:=hcO;clear hRk hcO;go_wp2_with fail;refine l3.mono ?_;rintro e x1 ⟨rfl,q1⟩;go_wp2_with (refine bK _ rfl 101 (.tmp 10) (.tmp 31) rfl x1.heap.size (cellV nG) (cellV c) rfl _ rfl rfl 101 (bV _ _) rfl g_ (jW _) ?_);intro y2 g2 k2 z2;have B2:Below wr.heap.size wr y2:=(q1.iB.alloc q1.size (.cells (dw nG) 101)).trans (k2.below (by have:=q1.size;simp;omega) (fun k hk e=>by have:=q1.size;omega));have hq1:wr.heap.size≤x1.heap.size:=q1.size;have Xi:Hid (Wr y2 wb L s x'):=HX.o.keep B2;have WM:Hid (y2.heap[bB]? =some (.cells (cellV bf).toArray 101 (0,0))):=(B2.block bB (aK HG.o)).trans HG.o;have OZ:Hid _:=g2;have ZI:Hid (Wk wb w y2):=HK.o.trans (Wk.of_below B2 (kW hwl));have hbl:=aK HG.o;obtain⟨bC,hbC⟩:∃bC,bC=x1.heap.size:=⟨_,rfl⟩;rw[←hbC];rw[←hbC]at OZ;have hBC:bB<bC:=by omega
   have hwC:wb<bC:=by omega
   clear g2 k2 z2 B2 q1 HX HG HK l3 hbC;go_wp2_with fail;have HS6:World.rangeAt ({y2 with drawn:=y2.drawn+1}:World) bC 0 (cellV c):=nV (w:=({y2 with drawn:=y2.drawn+1}:World)) OZ.o 0 _ rfl;refine dX (S:=fun y=>y.rangeAt bC 0 (cellV c)) aX ?_;refine aj 0 HS6 ?_ (v:=.agg (dw c)) (hy:=(kz (by rfl) 101 (.tmp 10) rfl bC 0 rfl (cellV c) _ (fun y h=>h) underlying101 rfl (by rw[fF];exact g_)));simp only[ag,af];refine wpAnyH_all (rs:=[1]) (by kernel_rfl) (by simp) ?_;intro i' hi';rw[jg]at hi';subst hi';refine dI ?_;refine a_ (vs:=[]) (R:=fun v w'=>v= .agg (dw aD)∧Below y2.heap.size y2 w') ((oH _).mono fun e w' h=>⟨_,h.1,rfl,⟨h.2.os,h.2.tape,h.2.output,h.2.size,h.2.block⟩⟩) ?_;rintro v4 y3 ⟨rfl,b3⟩;have MF:Hid (Wr y3 wb L s x'):=Xi.o.keep b3;have Mv:Hid (y3.heap[bB]? =some (.cells (cellV bf).toArray 101 (0,0))):=(b3.block bB (aK WM.o)).trans WM.o;have O0:Hid (y3.heap[bC]? =some (.cells (cellV c).toArray 101 (0,0))):=(b3.block bC (aK OZ.o)).trans OZ.o;have Po:Hid (Wk wb w y3):=ZI.o.trans (Wk.of_below b3 (kW Xi.o.lt));have xR:=nV O0.o 0 (cellV c) rfl;refine⟨xR,?_⟩;simp only[ag,af];refine aj 2 xR ?_ (v:=.bool (!decide (c=aD))) (hy:=(Or.inl ⟨by rfl,fun y _=>Ii (.tmp 32) (.tmp 33) rfl c aD rfl rfl y⟩));simp only[ag,af];refine aC ?_;clear HS6 xR b3 Xi WM OZ ZI;by_cases hcb:c=aD
   ·rw[iP hcb];have e1:x'.jL i k bf c=x':=by unfold WS.jL;rw[ak hcb]
    rw[←e1]at MF;have Y_:Hid _:=e1;clear e1 hcb;go_wp2_with (first|(refine fC rfl 101 (.tmp 10) rfl bC rfl 101 _ (0,0) _ O0.o underlying101 rfl g_ ?_)|(refine bK _ rfl 101 (.tmp 8) (.tmp 45) rfl bB (cellV bf) (cellV c) rfl _ rfl rfl 101 Mv.o rfl g_ (jW _) ?_));intro y9 g9 k9 z9;have HX9:Hid (Wr y9 wb L s (x'.jL i k bf c)):=MF.o.set k9 Mv.o (by decide) hwb;have ZC:Hid _:=g9;have Pn:Hid (Wk wb w y9):=⟨Po.o.b.trans ⟨k9.os,k9.tape,k9.output,k9.size,fun k hk=>k9.block k (by have:=MF.o.lt;omega) (by omega)⟩,fun k hk hn hb=>(k9.block k (by have:=Po.o.b.size;omega) (by omega)).trans (Po.o.n k hk hn hb)⟩
    have Zu:Hid (WS.runs i x 0 aD R=WS.runs i (x'.jL i k bf c) (k+1) c (R.drop (k+1))):=HE.o.trans (by
     have hd:R.drop k=c::R.drop (k+1):=by obtain⟨hl,e⟩:=gJ.1 HRk.o;rw[uH hl,e]
     rw[hd];rfl)
    have hlen:=yE x' i k bf c;clear g9 k9 z9;go_wp2_with fail;go_roundw
    case rel=>exact⟨k+1,x'.jL i k bf c,c,by omega,by go_num,HX9,ZC,Zu,by omega,Pn⟩
    case measure=>simp[intOf];omega
   ·rw[jh hcb];have Z4:Hid _:=hcb;clear hcb;go_wp2_with fail;have HS7:World.rangeAt ({y3 with drawn:=y3.drawn+1}:World) bB 0 (cellV bf):=nV (w:=({y3 with drawn:=y3.drawn+1}:World)) Mv.o 0 _ rfl;refine dX (S:=fun y=>y.rangeAt bB 0 (cellV bf)) aX ?_;refine aj 0 HS7 ?_ (v:=.agg (dw bf)) (hy:=(kz (by rfl) 101 (.tmp 8) rfl bB 0 rfl (cellV bf) _ (fun y h=>h) underlying101 rfl (by rw[fF];exact g_)));simp only[ag,af];refine wpAnyH_all (rs:=[1]) (by kernel_rfl) (by simp) ?_;intro i' hi';rw[jg]at hi';subst hi';refine dI ?_;refine a_ (vs:=[]) (R:=fun v w'=>v= .agg (dw aD)∧Below y3.heap.size y3 w') ((oH _).mono fun e w' h=>⟨_,h.1,rfl,⟨h.2.os,h.2.tape,h.2.output,h.2.size,h.2.block⟩⟩) ?_;rintro v4 y5 ⟨rfl,b3⟩;have MG:Hid (Wr y5 wb L s x'):=MF.o.keep b3;have Pb:Hid (y5.heap[bB]? =some (.cells (cellV bf).toArray 101 (0,0))):=(b3.block bB (aK Mv.o)).trans Mv.o;have O5:Hid (y5.heap[bC]? =some (.cells (cellV c).toArray 101 (0,0))):=(b3.block bC (aK O0.o)).trans O0.o;have TI:Hid (Wk wb w y5):=Po.o.trans (Wk.of_below b3 (kW MF.o.lt));have xq:=nV Pb.o 0 (cellV bf) rfl;refine⟨xq,?_⟩;simp only[ag,af];refine aj 2 xq ?_ (v:=.bool (decide (bf=aD))) (hy:=(Or.inl ⟨by rfl,fun y _=>yF (.tmp 35) (.tmp 36) rfl bf aD rfl rfl y⟩));simp only[ag,af];refine aC ?_;clear HS7 xq b3 MF Mv O0 Po;by_cases hbb:bf=aD
    ·rw[iP hbb];have l6:=uU wb L.tb x' i k (by omega) (by omega) y5 MG.o.wr (by omega);have e1:x'.jL i k bf c=(x'.place i k).cell c:=by unfold WS.jL;rw[ai Z4.o,ak hbb]
     have Y_:Hid _:=e1;have hpl:=mG x' i k;clear e1 hbb;go_wp2_with fail;refine l6.mono ?_;rintro e y6 ⟨rfl,h6,k6⟩;have HXp:Hid (Wr y6 wb L s (x'.place i k)):=MG.o.step k6 h6;have ZF:Hid _:=k6.at Pb.o (by omega) (by decide);have WB:Hid _:=k6.at O5.o (by omega) (by decide);have ZJ:Hid _:=TI.o.trans k6;have l7:=Au wb L.tb (x'.place i k) c HCO.o y6 h6 (by omega);clear l6 h6 k6 MG Pb O5 TI;go_wp2_with (refine fC rfl 101 (.tmp 10) rfl bC rfl 101 _ (0,0) _ WB.o underlying101 rfl g_ ?_);refine l7.mono ?_;rintro e y7 ⟨rfl,h7,k7⟩;rw[←Y_.o]at h7;have PL:Hid (Wr y7 wb L s (x'.jL i k bf c)):=HXp.o.step k7 h7;have Pf:Hid (y7.heap[bB]? =some (.cells (cellV bf).toArray 101 (0,0))):=k7.at ZF.o (by omega) (by decide);have WC:Hid (y7.heap[bC]? =some (.cells (cellV c).toArray 101 (0,0))):=k7.at WB.o (by omega) (by decide);have Jh:Hid (Wk wb w y7):=ZJ.o.trans k7;clear l7 h7 k7 HXp ZF WB ZJ;go_wp2_with (first|(refine fC rfl 101 (.tmp 10) rfl bC rfl 101 _ (0,0) _ WC.o underlying101 rfl g_ ?_)|(refine bK _ rfl 101 (.tmp 8) (.tmp 45) rfl bB (cellV bf) (cellV c) rfl _ rfl rfl 101 Pf.o rfl g_ (jW _) ?_));intro y9 g9 k9 z9;have HX9:Hid (Wr y9 wb L s (x'.jL i k bf c)):=PL.o.set k9 Pf.o (by decide) hwb;have ZC:Hid _:=g9;have Pn:Hid (Wk wb w y9):=⟨Jh.o.b.trans ⟨k9.os,k9.tape,k9.output,k9.size,fun k hk=>k9.block k (by have:=PL.o.lt;omega) (by omega)⟩,fun k hk hn hb=>(k9.block k (by have:=Jh.o.b.size;omega) (by omega)).trans (Jh.o.n k hk hn hb)⟩
     have Zu:Hid (WS.runs i x 0 aD R=WS.runs i (x'.jL i k bf c) (k+1) c (R.drop (k+1))):=HE.o.trans (by
      have hd:R.drop k=c::R.drop (k+1):=by obtain⟨hl,e⟩:=gJ.1 HRk.o;rw[uH hl,e]
      rw[hd];rfl)
     have hlen:=yE x' i k bf c;clear g9 k9 z9;go_wp2_with fail;go_roundw
     case rel=>exact⟨k+1,x'.jL i k bf c,c,by omega,by go_num,HX9,ZC,Zu,by omega,Pn⟩
     case measure=>simp[intOf];omega
    ·rw[jh hbb];have e1:x'.jL i k bf c=x'.cell c:=by unfold WS.jL;rw[ai Z4.o,ai hbb]
     have Y_:Hid _:=e1;have l7:=Au wb L.tb x' c HCO.o y5 MG.o.wr (by omega);clear e1 hbb;go_wp2_with (refine fC rfl 101 (.tmp 10) rfl bC rfl 101 _ (0,0) _ O5.o underlying101 rfl g_ ?_);refine l7.mono ?_;rintro e y7 ⟨rfl,h7,k7⟩;rw[←Y_.o]at h7;have PL:Hid (Wr y7 wb L s (x'.jL i k bf c)):=MG.o.step k7 h7;have Pf:Hid (y7.heap[bB]? =some (.cells (cellV bf).toArray 101 (0,0))):=k7.at Pb.o (by omega) (by decide);have WC:Hid (y7.heap[bC]? =some (.cells (cellV c).toArray 101 (0,0))):=k7.at O5.o (by omega) (by decide);have Jh:Hid (Wk wb w y7):=TI.o.trans k7;clear l7 h7 k7 MG Pb O5 TI;go_wp2_with (first|(refine fC rfl 101 (.tmp 10) rfl bC rfl 101 _ (0,0) _ WC.o underlying101 rfl g_ ?_)|(refine bK _ rfl 101 (.tmp 8) (.tmp 45) rfl bB (cellV bf) (cellV c) rfl _ rfl rfl 101 Pf.o rfl g_ (jW _) ?_));intro y9 g9 k9 z9;have HX9:Hid (Wr y9 wb L s (x'.jL i k bf c)):=PL.o.set k9 Pf.o (by decide) hwb;have ZC:Hid _:=g9;have Pn:Hid (Wk wb w y9):=⟨Jh.o.b.trans ⟨k9.os,k9.tape,k9.output,k9.size,fun k hk=>k9.block k (by have:=PL.o.lt;omega) (by omega)⟩,fun k hk hn hb=>(k9.block k (by have:=Jh.o.b.size;omega) (by omega)).trans (Jh.o.n k hk hn hb)⟩
     have Zu:Hid (WS.runs i x 0 aD R=WS.runs i (x'.jL i k bf c) (k+1) c (R.drop (k+1))):=HE.o.trans (by
      have hd:R.drop k=c::R.drop (k+1):=by obtain⟨hl,e⟩:=gJ.1 HRk.o;rw[uH hl,e]
      rw[hd];rfl)
     have hlen:=yE x' i k bf c;clear g9 k9 z9;go_wp2_with fail;go_roundw
     case rel=>exact⟨k+1,x'.jL i k bf c,c,by omega,by go_num,HX9,ZC,Zu,by omega,Pn⟩
     case measure=>simp[intOf];omega
  ·have YE:¬(k:Int)<(s.ah:Int):=by omega
   have sP:Hid (WS.runs i x 0 aD R=x'):=HE.o.trans (by rw[qB (by omega)];rfl);go_wp2_with fail;go_end0;exact⟨rfl,by rw[sP.o];exact HX.o.wr,HK.o⟩
def TS.az (s:TS) (n:Nat):bS:=if n=0 then s.s0 else s.s1
structure sV (s:TS):Prop where
 ok:∀n i k,i<s.rows→k<s.ah→(s.cellAt n i k).part=2∨(s.cellAt n i k).Ok
 tl:∀n i k,i<s.rows→k<s.ah→(s.cellAt n i k).part=2→1≤k
theorem Eh(wb:Nat)(L:Lay)(s:TS)(hI:s.Inv)(hO:sV s)(n pr pc r:Nat)(hn:n<2)(hpr:pr<s.rows)(hpc:pc<s.ah)(hr:r<90)(p:di)(hp1:p.row=pr)(hp2:p.col=pc)(x:WS)(w:World)(h:Wr w wb L s x)(hx:x.tx.length≤400000000):
 Calls prog 207 #[.pointer (some ⟨wb,0,none⟩),.int .i64 (n:Int),.agg (aB p).toArray,.int .i64 (r:Int)] w fun e w'=>e= .returned (.tuple #[])∧iK w' wb L.tb (x.bP (s.az n) p r)∧Wk wb w w':=by
 have hlt:=h.lt;have hc2:=hI.c2;obtain⟨W,hW⟩:∃W,W=w.alloc (.cells (aB p).toArray 82):=⟨_,rfl⟩;have GW:W.heap[w.heap.size]? =some (.cells (aB p).toArray 82 (0,0)):=by rw[hW];exact bV _ _
 have BW:Below w.heap.size w W:=by rw[hW];exact(dU _ _).alloc (bN _) _
 have c1:(w.alloc (.cells (aB p).toArray 82)).cell? ⟨w.heap.size,1,none⟩=some (.int .i64 (pc:Int)):=by rw[←hp2];exact(bG _ _ _ _ _ _ (bV w _)).trans rfl
 have HX:Hid (Wr W wb L s x):=h.keep BW;have HK:Hid (Wk wb w W):=Wk.of_below BW (kW hlt);have HG:Hid _:=GW;have HW:Hid _:=hW;obtain⟨nb,hnb⟩:∃nb,nb=w.heap.size:=⟨_,rfl⟩;have e0:WS.cellAt (s.az n) p.row p.col=s.cellAt n pr pc:=by rw[hp1,hp2];rfl
 have e1:1≤pc→WS.cellAt (s.az n) p.row (p.col-1)=s.cellAt n pr (pc-1):=fun h1=>by rw[hp1,hp2,show(pc:Int)-1=((pc-1:Nat):Int) by omega];rfl
 have F8:Hid _:=e0;have Y_:Hid _:=e1;have HP:Hid (p.row=pr∧p.col=pc):=⟨hp1,hp2⟩;have VM:∀(x:WS) (y:World),Wr y wb L s x→y.heap[nb]? =some (.cells (aB p).toArray 82 (0,0))→y.cell? ⟨wb,0,none⟩=some (.pointer (some ⟨L.tb,0,none⟩))∧y.cell? ⟨nb,0,none⟩=some (.int .i64 (pr:Int)):=fun x y hy hg=>⟨hy.c0,by rw[←HP.o.1];exact(bG _ _ _ _ _ _ hg).trans rfl⟩;have HI:Hid _:=hI;have HO:Hid _:=hO;rw[←hnb]at HG;have hwn:wb<nb:=by omega
 have Z4:Hid _:=hnb;clear h hW BW e0 e1 hp1 hp2 GW hI hO hnb;go_enter func207,ntmps207;go_wp2_with fail;rw[←HW.o, ←Z4.o];have HH:=VM x ({W with drawn:=W.drawn+1}:World) (HX.o.keep ⟨rfl,rfl,rfl,bN _,fun _ _=>rfl⟩) HG.o;refine dX (S:=fun y=>y.cell? ⟨wb,0,none⟩=some (.pointer (some ⟨L.tb,0,none⟩))∧y.cell? ⟨nb,0,none⟩=some (.int .i64 (pr:Int))) aX ?_;refine ay 0 1 2 3 HH ?_;simp only[ag,af];refine ay 4 5 6 7 HH ?_;simp only[ag,af];refine av 8 ?_;have X0:Wr ({W with drawn:=W.drawn+1}:World) wb L s x:=HX.o.keep ⟨rfl,rfl,rfl,bN _,fun _ _=>rfl⟩;refine a_ (vs:=[.pointer (some ⟨L.tb,0,none⟩),.int .i64 (n:Int),.int .i64 (pr:Int),.int .i64 (pc:Int)]) (R:=fun v w'=>v= .agg (dw (s.cellAt n pr pc))∧Below W.heap.size W w') ((sI L s n pr pc hn hpr hpc _ X0.te HI.o).mono fun e w' h=>⟨_,h.1,rfl,⟨h.2.os,h.2.tape,h.2.output,h.2.size,fun k hk=>h.2.block k hk id⟩⟩) ?_;rintro v2 y2 ⟨rfl,b2⟩;have xZ:Hid (Wr y2 wb L s x):=HX.o.keep b2;have HG2:Hid (y2.heap[nb]? =some (.cells (aB p).toArray 82 (0,0))):=(b2.block nb (aK HG.o)).trans HG.o;have mD:Hid (Wk wb w y2):=HK.o.trans (Wk.of_below b2 (kW HX.o.lt));have I4:=VM x y2 xZ.o HG2.o;refine⟨I4,?_⟩;simp only[ag,af];have hO1:=HO.o.ok n pr pc hpr hpc;have hO2:=HO.o.tl n pr pc hpr hpc;generalize hcc:s.cellAt n pr pc=c at*;have OH:Hid _:=hcc;clear hcc;refine aj 9 I4 ?_ (v:=.int .i64 c.part);refine aj 10 I4 ?_ (v:=.bool (c.part==2));simp only[ag,af];refine aC ?_;clear HH I4 X0 HX HG HK b2;by_cases hp2:c.part=2
 ·have hb:(c.part==2)=true:=by simpa using hp2
  have hq:=hO2 hp2;obtain⟨q,hqe⟩:∃q,q=pc-1:=⟨_,rfl⟩;have hqi:(q:Int)=(pc:Int)-1:=by omega
  have vq:IntKind.i64.wrap ((pc:Int)-1)=(q:Int):=by rw[←hqi];exact bD _ (by omega)
  have sP:Hid (x.bP (s.az n) p r=(x.place r q).cell (s.cellAt n pr q)):=by show _=_;unfold WS.bP;rw[F8.o,ak hp2,Y_.o hq,HP.o.2,hqi,hqe]
  have hqc:q<s.ah:=by omega
  rw[hb];clear hp2 hb hqi hqe hO1 hO2;have l3:=uU wb L.tb x r q (by omega) (by omega) y2 xZ.o.wr (by omega);have hpl:=mG x r q;go_wp2_with fail;refine l3.mono ?_;rintro e y3 ⟨rfl,h3,k3⟩;have wD:Hid (Wr y3 wb L s (x.place r q)):=xZ.o.step k3 h3;have yY:Hid (y3.heap[nb]? =some (.cells (aB p).toArray 82 (0,0))):=k3.at HG2.o (by omega) (by decide);have Ep:Hid (Wk wb w y3):=mD.o.trans k3;clear l3 h3 k3 xZ HG2 mD;have X3:Wr ({y3 with drawn:=y3.drawn+1}:World) wb L s (x.place r q):=wD.o.keep ⟨rfl,rfl,rfl,bN _,fun _ _=>rfl⟩;have TF:=VM _ ({y3 with drawn:=y3.drawn+1}:World) X3 yY.o;go_wp2_with fail;refine dX (S:=fun y=>y.cell? ⟨wb,0,none⟩=some (.pointer (some ⟨L.tb,0,none⟩))∧y.cell? ⟨nb,0,none⟩=some (.int .i64 (pr:Int))) aX ?_;refine ay 0 1 2 3 TF ?_;simp only[ag,af];refine ay 4 5 6 7 TF ?_;simp only[ag,af];refine aj 8 TF ?_;simp only[ag,af];refine av 9 ?_;refine a_ (vs:=[.pointer (some ⟨L.tb,0,none⟩),.int .i64 (n:Int),.int .i64 (pr:Int),.int .i64 (q:Int)]) (R:=fun v w'=>v= .agg (dw (s.cellAt n pr q))∧Below y3.heap.size y3 w') ((sI L s n pr q hn hpr (by omega) _ X3.te HI.o).mono fun e w' h=>⟨_,h.1,rfl,⟨h.2.os,h.2.tape,h.2.output,h.2.size,fun k hk=>h.2.block k hk id⟩⟩) ?_;rintro v4 y4 ⟨rfl,b4⟩;have FR:Hid (Wr y4 wb L s (x.place r q)):=wD.o.keep b4;have Co:Hid (y4.heap[nb]? =some (.cells (aB p).toArray 82 (0,0))):=(b4.block nb (aK yY.o)).trans yY.o;have qY:Hid (Wk wb w y4):=Ep.o.trans (Wk.of_below b4 (kW wD.o.lt));refine⟨VM _ y4 FR.o Co.o,?_⟩;simp only[ag,af];have hO3:=HO.o.ok n pr q hpr (by omega);refine av 10 ?_;refine a_ (vs:=[.pointer (some ⟨wb,0,none⟩),.agg (dw (s.cellAt n pr q))]) (R:=fun v w'=>iK w' wb L.tb ((x.place r q).cell (s.cellAt n pr q))∧Wk wb y4 w') ((Au wb L.tb (x.place r q) (s.cellAt n pr q) hO3 y4 FR.o.wr (by omega)).mono fun e w' h=>⟨_,h.1,h.2⟩) ?_;rintro v5 y5 ⟨h5,k5⟩;have VS:Hid (Wr y5 wb L s ((x.place r q).cell (s.cellAt n pr q))):=FR.o.step k5 h5;have Jg:Hid (Wk wb w y5):=qY.o.trans k5;refine⟨VM _ y5 VS.o (k5.at Co.o (by omega) (by decide)),?_⟩;refine aC ?_;clear h5 k5 FR Co qY wD yY Ep b4 X3 TF;go_wp2_with fail;go_end0;exact⟨rfl,by rw[sP.o];exact VS.o.wr,Jg.o⟩
 ·have hb:(c.part==2)=false:=by simpa using hp2
  have sP:Hid (x.bP (s.az n) p r=(x.place r pc).cell (s.cellAt n pr pc)):=by show _=_;unfold WS.bP;rw[F8.o,ai hp2,HP.o.2,OH.o]
  rw[hb];clear hp2 hb hO1 hO2;have l3:=uU wb L.tb x r pc (by omega) (by omega) y2 xZ.o.wr (by omega);have hpl:=mG x r pc;go_wp2_with fail;refine l3.mono ?_;rintro e y3 ⟨rfl,h3,k3⟩;have wD:Hid (Wr y3 wb L s (x.place r pc)):=xZ.o.step k3 h3;have yY:Hid (y3.heap[nb]? =some (.cells (aB p).toArray 82 (0,0))):=k3.at HG2.o (by omega) (by decide);have Ep:Hid (Wk wb w y3):=mD.o.trans k3;clear l3 h3 k3 xZ HG2 mD;have X3:Wr ({y3 with drawn:=y3.drawn+1}:World) wb L s (x.place r pc):=wD.o.keep ⟨rfl,rfl,rfl,bN _,fun _ _=>rfl⟩;have TF:=VM _ ({y3 with drawn:=y3.drawn+1}:World) X3 yY.o;go_wp2_with fail;refine dX (S:=fun y=>y.cell? ⟨wb,0,none⟩=some (.pointer (some ⟨L.tb,0,none⟩))∧y.cell? ⟨nb,0,none⟩=some (.int .i64 (pr:Int))) aX ?_;refine ay 0 1 2 3 TF ?_;simp only[ag,af];refine ay 4 5 6 7 TF ?_;simp only[ag,af];refine aj 8 TF ?_;simp only[ag,af];refine av 9 ?_;refine a_ (vs:=[.pointer (some ⟨L.tb,0,none⟩),.int .i64 (n:Int),.int .i64 (pr:Int),.int .i64 (pc:Int)]) (R:=fun v w'=>v= .agg (dw (s.cellAt n pr pc))∧Below y3.heap.size y3 w') ((sI L s n pr pc hn hpr (by omega) _ X3.te HI.o).mono fun e w' h=>⟨_,h.1,rfl,⟨h.2.os,h.2.tape,h.2.output,h.2.size,fun k hk=>h.2.block k hk id⟩⟩) ?_;rintro v4 y4 ⟨rfl,b4⟩;have FR:Hid (Wr y4 wb L s (x.place r pc)):=wD.o.keep b4;have Co:Hid (y4.heap[nb]? =some (.cells (aB p).toArray 82 (0,0))):=(b4.block nb (aK yY.o)).trans yY.o;have qY:Hid (Wk wb w y4):=Ep.o.trans (Wk.of_below b4 (kW wD.o.lt));refine⟨VM _ y4 FR.o Co.o,?_⟩;simp only[ag,af];have hO3:=HO.o.ok n pr pc hpr (by omega);refine av 10 ?_;refine a_ (vs:=[.pointer (some ⟨wb,0,none⟩),.agg (dw (s.cellAt n pr pc))]) (R:=fun v w'=>iK w' wb L.tb ((x.place r pc).cell (s.cellAt n pr pc))∧Wk wb y4 w') ((Au wb L.tb (x.place r pc) (s.cellAt n pr pc) hO3 y4 FR.o.wr (by omega)).mono fun e w' h=>⟨_,h.1,h.2⟩) ?_;rintro v5 y5 ⟨h5,k5⟩;have VS:Hid (Wr y5 wb L s ((x.place r pc).cell (s.cellAt n pr pc))):=FR.o.step k5 h5;have Jg:Hid (Wk wb w y5):=qY.o.trans k5;refine⟨VM _ y5 VS.o (k5.at Co.o (by omega) (by decide)),?_⟩;refine aC ?_;clear h5 k5 FR Co qY wD yY Ep b4 X3 TF;go_wp2_with fail;go_end0;exact⟨rfl,by rw[sP.o];exact VS.o.wr,Jg.o⟩
end Go.Proofs.YtheibfffilomcaaGreatDoor
