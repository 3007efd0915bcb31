import Derived.Test.YtheibfffilomcaaGreatDoorTmaU
import Derived.Test.YtheibfffilomcaaGreatDoorXiU
import Derived.BigQuiet
set_option linter.all false
set_option maxRecDepth 100000
set_option maxHeartbeats 4000000
namespace Go.Proofs.YtheibfffilomcaaGreatDoor
open Go.RowKit Go.Proofs.Tryz
variable {w:World} {B b n cap:Nat} {r:bY} {p:Option DC}
theorem mX(w:World):Calls prog 198 #[] w fun e w'=>e= .returned (.agg (Dr aM))∧Sm w w':=by go_enter func198,ntmps198;go_wp2_with (refine bK _ rfl 177 (.tmp 0) (.tmp 2) rfl w.heap.size (tF Mr) (tF aM) rfl _ rfl rfl 177 (bV _ _) rfl lV (tJ _) ?_);intro u2 g2 k2 z2;go_wp2_with fail;exact bX (eX results198 _ _ w.heap.size (tF aM) 177 (0,0) underlying177 lV rfl g2) rfl ⟨rfl,((Ch.refl _ _).alloc _).trans' k2 (fun k hk e=>by omega)⟩
theorem iE(n:Nat)(w:World)(hn:n≤1000):Calls prog 132 #[.int .i64 (n:Int)] w fun e w'=>∃v,e= .returned v∧gL w' w.heap.size v (List.replicate n aM)∧Below w.heap.size w w':=by
 go_enter func132,ntmps132;go_wp2_with fail;go_loopw [3,4] (fun v i wr=>∃k:Nat,k≤n∧i= .int .i64 k∧gL wr w.heap.size v (List.replicate k aM)∧Below w.heap.size w wr) (fun _ i _=>n-(intOf i).toNat)
 case atStart=>exact⟨0,dx _,rfl,gL.nil _ _,dU _ _⟩
 case round=>
  obtain⟨k,hk,rfl,own,iB⟩:=hrel;by_cases hlt:k<n
  ·have ik:(k:Int)<(n:Int):=by omega
   have vk:IntKind.i64.wrap ((k:Int)+1)=(k:Int)+1:=bD _ (by omega);have HO:Hid (gL wr w.heap.size u3 (List.replicate k aM)):=own;have HB:Hid _:=iB;clear own iB;go_wp2_with fail;refine(mX wr).mono ?_;rintro e w1 ⟨rfl,s1⟩;have o1:=HO.o.below (s1.below (bN _) (fun _ _ h=>h));have b1:Below w.heap.size w w1:=HB.o.trans (s1.below HB.o.size (fun _ _ h=>h));have H1:Hid (gL w1 w.heap.size u3 (List.replicate k aM)):=o1;have H2:Hid _:=b1;clear o1 b1 s1 HO HB;go_wp2_with (first|(refine pU w1 rfl (.tmp 11) rfl aM rfl ?_)|(refine o6 w1 rfl (.tmp 10) (.tmp 12) rfl w.heap.size _ _ aM rfl H1.o rfl (by simp;omega) H2.o.size ?_));intro v' w' own' g';have b':=ji H2.o H2.o.size H1.o g';go_wp2_with fail;go_roundw
   case rel=>exact⟨k+1,by omega,by go_num,by rw[List.replicate_succ'];exact own',b'⟩
   case measure=>simp[intOf];omega
  ·have ik:¬(k:Int)<(n:Int):=by omega
   obtain rfl:k=n:=by omega
   go_wp2_with fail;go_ret;exact⟨_,rfl,own,iB⟩
theorem zA(a b:Int)(w:World):Calls prog 133 #[.int .i64 a,.int .i64 b] w fun e w'=>e= .returned (.int .i64 (min a b))∧w'=w:=by
 by_cases h:a<b
 ·rw[show min a b=a by omega];go_enter func133,ntmps133;go_wp2_with fail;go_ret;exact⟨rfl,rfl⟩
 ·rw[show min a b=b by omega];go_enter func133,ntmps133;go_wp2_with fail;go_ret;exact⟨rfl,rfl⟩
theorem vJ(va vb:Value)(ra rb:bY)(Ba Bb:Nat)(w:World)(ha:dF w Ba va ra)(hb:dF w Bb vb rb)(hl:ra.length+rb.length≤1000):Calls prog 195 #[va,vb] w fun e w'=>∃v,e= .returned v∧gL w' w.heap.size v (ra++rb)∧Below w.heap.size w w':=by
 have RA:Hid (dF w Ba va ra):=ha;have RB:Hid (dF w Bb vb rb):=hb;obtain⟨aa,ca,rfl,hca,hra⟩:=ha;obtain⟨ab,cb,rfl,hcb,hrb⟩:=hb;have WR:Hid _:=hra;have HRB:Hid _:=hrb;clear hra hrb;go_enter func195,ntmps195;go_wp2_with fail;go_loopw [5,6] (fun v i wr=>∃k:Nat,k≤ra.length∧i= .int .i64 k∧gL wr w.heap.size v (ra.take k)∧Below w.heap.size w wr) (fun _ i _=>ra.length-(intOf i).toNat)
 case atStart=>exact⟨0,dx _,rfl,gL.nil _ _,dU _ _⟩
 case round=>
  obtain⟨k,hk,rfl,own,iB⟩:=hrel;by_cases hlt:k<ra.length
  ·have ik:(k:Int)<(ra.length:Int):=by omega
   have vk:IntKind.i64.wrap ((k:Int)+1)=(k:Int)+1:=bD _ (by omega);obtain⟨c,hc⟩:∃c,ra[k]? =some c:=⟨_,eG hlt⟩;obtain⟨b,o,rfl,hB,hbl,hrg⟩:=WR.o k c hc;have RG:wr.rangeAt b (o+k*8) (tF c):=fun i v hv=>(dA (iB.block b hbl)).trans (hrg i v hv);have uF:Hid _:=RG;have HO:Hid (gL wr w.heap.size u5 (ra.take k)):=own;have HB:Hid _:=iB;have HC:Hid (ra.take (k+1)=ra.take k++[c]):=by obtain⟨h1,h2⟩:=gJ.1 hc;show _=_;rw[o7 h1,h2]
   clear own iB hrg hc RG;go_wp2_with (first|(refine nN rfl 177 (.tmp 17) rfl b (o+k*8) rfl (tF c) _ uF.o underlying177 rfl lV ?_)|(refine pU wr rfl (.tmp 18) rfl c rfl ?_)|(refine o6 wr rfl (.tmp 14) (.tmp 19) rfl w.heap.size _ _ c rfl HO.o rfl (by simp;omega) HB.o.size ?_));intro v' w' own' g';have b':=ji HB.o HB.o.size HO.o g';rw[←HC.o]at own';go_wp2_with fail;go_roundw
   case rel=>exact⟨k+1,by omega,by go_num,own',b'⟩
   case measure=>simp[intOf];omega
  ·have ik:¬(k:Int)<(ra.length:Int):=by omega
   obtain rfl:k=ra.length:=by omega
   rw[List.take_length]at own;have afZ:Hid (gL wr w.heap.size u5 ra):=own;have aeC:Hid _:=iB;clear own iB;go_wp2_with fail;go_loopw [5,7] (fun v i wr=>∃k:Nat,k≤rb.length∧i= .int .i64 k∧gL wr w.heap.size v (ra++rb.take k)∧Below w.heap.size w wr) (fun _ i _=>rb.length-(intOf i).toNat)
   case atStart=>exact⟨0,dx _,rfl,by rw[List.take_zero,gp];exact afZ.o,aeC.o⟩
   case round=>
    obtain⟨k,hk,rfl,own,iB⟩:=hrel;by_cases hlt:k<rb.length
    ·have ik:(k:Int)<(rb.length:Int):=by omega
     have vk:IntKind.i64.wrap ((k:Int)+1)=(k:Int)+1:=bD _ (by omega);obtain⟨c,hc⟩:∃c,rb[k]? =some c:=⟨_,eG hlt⟩;obtain⟨b,o,rfl,hB,hbl,hrg⟩:=HRB.o k c hc;have RG:wr.rangeAt b (o+k*8) (tF c):=fun i v hv=>(dA (iB.block b hbl)).trans (hrg i v hv);have uF:Hid _:=RG;have HO:Hid (gL wr w.heap.size u5 (ra++rb.take k)):=own;have HB:Hid _:=iB;have HC:Hid (ra++rb.take (k+1)=ra++(rb.take k++[c])):=by obtain⟨h1,h2⟩:=gJ.1 hc;show _=_;rw[o7 h1,h2]
     clear own iB hrg hc RG;go_wp2_with (first|(refine nN rfl 177 (.tmp 30) rfl b (o+k*8) rfl (tF c) _ uF.o underlying177 rfl lV ?_)|(refine pU wr rfl (.tmp 31) rfl c rfl ?_)|(refine o6 wr rfl (.tmp 27) (.tmp 32) rfl w.heap.size _ _ c rfl HO.o rfl (by simp;omega) HB.o.size ?_));intro v' w' own' g';have b':=ji HB.o HB.o.size HO.o g';rw[←HC.o]at own';go_wp2_with fail;go_roundw
     case rel=>exact⟨k+1,by omega,by go_num,own',b'⟩
     case measure=>simp[intOf];omega
    ·have ik:¬(k:Int)<(rb.length:Int):=by omega
     obtain rfl:k=rb.length:=by omega
     rw[List.take_length]at own;go_wp2_with fail;go_ret;exact⟨_,rfl,own,iB⟩
theorem Hq:∀(l:bY) (p:Option DC),(mend p l).length=l.length:=by
 intro l;induction l with
 |nil=>intro p;rfl
 |cons c l ih=>intro p;rw[mend,fE,ih,fE]
theorem Re:∀(l:bY) (p:Option DC) (k:Nat) (c:DC),l[k]? =some c→(mend p l)[k]? =some (nT (if k=0 then p else l[k-1]?) c l[k+1]?):=by
 intro l;induction l with
 |nil=>intro p k c h;simp at h
 |cons d l ih=>
  intro p k c h;cases k with
  |zero=>simp at h;subst h;rw[mend];cases l<;>simp
  |succ k=>
   have h':l[k]? =some c:=by simpa using h
   rw[mend,F5,ih (some d) k c h'];cases k with
   |zero=>simp
   |succ k=>simp
theorem Nw(l:bY)(k:Nat)(c:DC)(h:l[k]? =some c):(mend none l).take (k+1)=(mend none l).take k++[nT (if k=0 then none else l[k-1]?) c l[k+1]?]:=by have:=Re l none k c h;obtain⟨h1,h2⟩:=gJ.1 this;rw[o7 h1,h2]
theorem BB{c:DC}{n:Option DC}(h:¬A_ p c n):nT p c n=c:=by unfold nT;rw[ai h]
theorem vT{c:DC}{n:Option DC}(h:A_ p c n):nT p c n=aM:=by unfold nT;rw[ak h]
theorem xC(v:Value)(r:bY)(B:Nat)(w:World)(hr:dF w B v r)(hl:r.length≤1000):Calls prog 196 #[v] w fun e w'=>∃v,e= .returned v∧gL w' w.heap.size v (mend none r)∧Below w.heap.size w w':=by
 obtain⟨ao,ca,rfl,hca,hra⟩:=hr;have WR:Hid _:=hra;clear hra;go_enter func196,ntmps196;go_wp2_with fail;go_loopw [3,4] (fun v i wr=>∃k:Nat,k≤r.length∧i= .int .i64 k∧gL wr w.heap.size v ((mend none r).take k)∧Below w.heap.size w wr) (fun _ i _=>r.length-(intOf i).toNat)
 case atStart=>exact⟨0,dx _,rfl,gL.nil _ _,dU _ _⟩
 case round=>
  obtain⟨k,hk,rfl,own,iB⟩:=hrel;by_cases hlt:k<r.length
  ·have ik:(k:Int)<(r.length:Int):=by omega
   have vk:IntKind.i64.wrap ((k:Int)+1)=(k:Int)+1:=bD _ (by omega);have vk':IntKind.i64.wrap ((k:Int)-1)=(k:Int)-1:=bD _ (by omega);obtain⟨c,hc⟩:∃c,r[k]? =some c:=⟨_,eG hlt⟩;obtain⟨b,o,rfl,hB,hbl,hrg⟩:=WR.o k c hc;have RG:∀u,Sm wr u→∀j x,r[j]? =some x→u.rangeAt b (o+j*8) (tF x):=fun u hu j x hj i v hv=>by obtain⟨b',o',e,_,_,h4⟩:=WR.o j x hj;cases e;exact(dA ((hu.block b (fJ hbl iB.size) id).trans (iB.block b hbl))).trans (h4 i v hv)
   have uF:Hid _:=RG;have RGk:Hid (wr.rangeAt b (o+k*8) (tF c)):=RG wr (Ch.refl _ _) k c hc;have HO:Hid (gL wr w.heap.size u3 ((mend none r).take k)):=own;have HB:Hid _:=iB;have HT:Hid _:=Nw r k c hc;have mW:Hid (((mend none r).take k).length≤1000000):=by show _≤_;rw[kg,Hq];omega
   clear own iB hrg RG;go_wp2_with (first|(refine nN rfl 177 (.tmp 15) rfl b (o+k*8) rfl (tF c) _ RGk.o underlying177 rfl lV ?_)|(refine bK _ rfl 177 (.tmp 5) (.tmp 16) rfl wr.heap.size (tF Mr) (tF c) rfl _ rfl rfl 177 (bV _ _) rfl lV (tJ _) ?_));intro y1 g1 k1 z1;obtain⟨g,hg⟩:∃g,g=wr.heap.size:=⟨_,rfl⟩;rw[←hg]at g1 k1 ⊢;have hgw:wr.heap.size≤g:=by omega
   have wu:Hid (Sm wr y1):=BX ((Ch.refl _ _).alloc _) k1 hgw;have nZ:Hid _:=g1;have hgl:=aK g1;have c6:y1.cell? ⟨g,6,none⟩=some (.int .i64 c.1.part):=(bG _ _ _ _ _ _ g1).trans rfl;have c7:y1.cell? ⟨g,7,none⟩=some (.int .i64 c.2):=(bG _ _ _ _ _ _ g1).trans rfl;clear k1 z1 g1 hg RGk;by_cases hp1:c.1.part=1
   ·rw[hp1]at c6;by_cases hnx:k+1<r.length
    ·obtain⟨x,hx⟩:∃x,r[k+1]? =some x:=⟨_,eG hnx⟩;have cx:y1.cell? ⟨b,o+(k+1)*8+7,none⟩=some (.int .i64 x.2):=uF.o y1 wu.o (k+1) x hx 7 _ rfl;have d1:decide ((r.length:Int)≤(k:Int)+1)=false:=by simp;omega
     have ik1:(k:Int)+1<(r.length:Int):=by omega
     by_cases hid:x.2=c.2
     ·clear hnx;have HC:Hid ((mend none r).take (k+1)=(mend none r).take k++[c]):=by
       show _=_;rw[HT.o,hx,BB];rintro(⟨_,h⟩|⟨h,_⟩)
       ·exact h x rfl hid
       ·omega
      rw[hid]at cx;go_wp2_with fail;go_quiet (fail);have S2:Sm wr y1:=wu.o;have g2:=nZ.o;have O2:gL y1 w.heap.size u3 ((mend none r).take k):=HO.o.below (S2.below (bN _) (fun _ _ h=>h));have B2:Below w.heap.size w y1:=HB.o.trans (S2.below HB.o.size (fun _ _ h=>h));have Ar:Hid (gL y1 w.heap.size u3 ((mend none r).take k)):=O2;have HG2:Hid _:=g2;have HB2:Hid _:=B2;clear O2 B2 g2;go_wp2_with (first|(refine fC rfl 177 (.tmp 5) rfl g rfl 177 _ (0,0) _ HG2.o underlying177 rfl lV ?_)|(refine pU _ rfl (.tmp 56) rfl c rfl ?_)|(refine o6 _ rfl (.tmp 55) (.tmp 57) rfl w.heap.size _ _ c rfl Ar.o rfl mW.o HB2.o.size ?_));intro v' w' own' g';have b':=ji HB2.o HB2.o.size Ar.o ⟨g'.os,g'.tape,g'.output,g'.size,g'.block⟩;rw[←HC.o]at own';go_wp2_with fail;go_roundw
      case rel=>exact⟨k+1,by omega,by go_num,own',b'⟩
      case measure=>simp[intOf];omega
     ·clear hnx;have HC:Hid ((mend none r).take (k+1)=(mend none r).take k++[aM]):=by show _=_;rw[HT.o,hx,vT];exact .inl ⟨hp1,fun y hy=>by cases hy;exact hid⟩
      go_wp2_with fail;go_quiet (fail);go_wp2_with fail;refine(mX _).mono ?_;rintro e z1 ⟨rfl,q0⟩;have q1:Sm y1 z1:=⟨q0.os,q0.tape,q0.output,q0.size,q0.block⟩;clear q0;have QH:z1.heap[g]? =some (.cells (tF c).toArray 177 (0,0)):=(q1.block g hgl id).trans nZ.o;go_wp2_with (refine bK _ rfl 177 (.tmp 5) (.tmp 54) rfl g (tF c) (tF aM) rfl _ rfl rfl 177 QH rfl lV (tJ _) ?_);intro z2 g2 k2 y2;have S2:Sm wr z2:=BX (wu.o.trans q1) k2 hgw;clear k2 y2 q1 QH;have O2:gL z2 w.heap.size u3 ((mend none r).take k):=HO.o.below (S2.below (bN _) (fun _ _ h=>h));have B2:Below w.heap.size w z2:=HB.o.trans (S2.below HB.o.size (fun _ _ h=>h));have Ar:Hid (gL z2 w.heap.size u3 ((mend none r).take k)):=O2;have HG2:Hid _:=g2;have HB2:Hid _:=B2;clear O2 B2 g2;go_wp2_with (first|(refine fC rfl 177 (.tmp 5) rfl g rfl 177 _ (0,0) _ HG2.o underlying177 rfl lV ?_)|(refine pU _ rfl (.tmp 56) rfl aM rfl ?_)|(refine o6 _ rfl (.tmp 55) (.tmp 57) rfl w.heap.size _ _ aM rfl Ar.o rfl mW.o HB2.o.size ?_));intro v' w' own' g';have b':=ji HB2.o HB2.o.size Ar.o ⟨g'.os,g'.tape,g'.output,g'.size,g'.block⟩;rw[←HC.o]at own';go_wp2_with fail;go_roundw
      case rel=>exact⟨k+1,by omega,by go_num,own',b'⟩
      case measure=>simp[intOf];omega
    ·have d1:decide ((r.length:Int)≤(k:Int)+1)=true:=by simp;omega
     have HC:Hid ((mend none r).take (k+1)=(mend none r).take k++[aM]):=by show _=_;rw[HT.o,wM (by omega:r.length≤k+1),vT];exact .inl ⟨hp1,fun y hy=>by cases hy⟩
     go_wp2_with fail;go_quiet (fail);go_wp2_with fail;refine(mX _).mono ?_;rintro e z1 ⟨rfl,q0⟩;have q1:Sm y1 z1:=⟨q0.os,q0.tape,q0.output,q0.size,q0.block⟩;clear q0;have QH:z1.heap[g]? =some (.cells (tF c).toArray 177 (0,0)):=(q1.block g hgl id).trans nZ.o;go_wp2_with (refine bK _ rfl 177 (.tmp 5) (.tmp 54) rfl g (tF c) (tF aM) rfl _ rfl rfl 177 QH rfl lV (tJ _) ?_);intro z2 g2 k2 y2;have S2:Sm wr z2:=BX (wu.o.trans q1) k2 hgw;clear k2 y2 q1 QH;have O2:gL z2 w.heap.size u3 ((mend none r).take k):=HO.o.below (S2.below (bN _) (fun _ _ h=>h));have B2:Below w.heap.size w z2:=HB.o.trans (S2.below HB.o.size (fun _ _ h=>h));have Ar:Hid (gL z2 w.heap.size u3 ((mend none r).take k)):=O2;have HG2:Hid _:=g2;have HB2:Hid _:=B2;clear O2 B2 g2;go_wp2_with (first|(refine fC rfl 177 (.tmp 5) rfl g rfl 177 _ (0,0) _ HG2.o underlying177 rfl lV ?_)|(refine pU _ rfl (.tmp 56) rfl aM rfl ?_)|(refine o6 _ rfl (.tmp 55) (.tmp 57) rfl w.heap.size _ _ aM rfl Ar.o rfl mW.o HB2.o.size ?_));intro v' w' own' g';have b':=ji HB2.o HB2.o.size Ar.o ⟨g'.os,g'.tape,g'.output,g'.size,g'.block⟩;rw[←HC.o]at own';go_wp2_with fail;go_roundw
     case rel=>exact⟨k+1,by omega,by go_num,own',b'⟩
     case measure=>simp[intOf];omega
   ·by_cases hp2:c.1.part=2
    ·rw[hp2]at c6;by_cases hk0:k=0
     ·have d1:decide ((k:Int)=0)=true:=by simp[hk0]
      have d1':((k:Int)==0)=true:=by simp[hk0]
      have De:Hid _:=hk0;clear hk0;have HC:Hid ((mend none r).take (k+1)=(mend none r).take k++[aM]):=by show _=_;rw[HT.o,ak De.o,vT];exact .inr ⟨hp2,fun y hy=>by cases hy⟩
      go_wp2_with fail;go_quiet (fail);go_wp2_with fail;refine(mX _).mono ?_;rintro e z1 ⟨rfl,q0⟩;have q1:Sm y1 z1:=⟨q0.os,q0.tape,q0.output,q0.size,q0.block⟩;clear q0;have QH:z1.heap[g]? =some (.cells (tF c).toArray 177 (0,0)):=(q1.block g hgl id).trans nZ.o;go_wp2_with (refine bK _ rfl 177 (.tmp 5) (.tmp 54) rfl g (tF c) (tF aM) rfl _ rfl rfl 177 QH rfl lV (tJ _) ?_);intro z2 g2 k2 y2;have S2:Sm wr z2:=BX (wu.o.trans q1) k2 hgw;clear k2 y2 q1 QH;have O2:gL z2 w.heap.size u3 ((mend none r).take k):=HO.o.below (S2.below (bN _) (fun _ _ h=>h));have B2:Below w.heap.size w z2:=HB.o.trans (S2.below HB.o.size (fun _ _ h=>h));have Ar:Hid (gL z2 w.heap.size u3 ((mend none r).take k)):=O2;have HG2:Hid _:=g2;have HB2:Hid _:=B2;clear O2 B2 g2;go_wp2_with (first|(refine fC rfl 177 (.tmp 5) rfl g rfl 177 _ (0,0) _ HG2.o underlying177 rfl lV ?_)|(refine pU _ rfl (.tmp 56) rfl aM rfl ?_)|(refine o6 _ rfl (.tmp 55) (.tmp 57) rfl w.heap.size _ _ aM rfl Ar.o rfl mW.o HB2.o.size ?_));intro v' w' own' g';have b':=ji HB2.o HB2.o.size Ar.o ⟨g'.os,g'.tape,g'.output,g'.size,g'.block⟩;rw[←HC.o]at own';go_wp2_with fail;go_roundw
      case rel=>exact⟨k+1,by omega,by go_num,own',b'⟩
      case measure=>simp[intOf];omega
     ·obtain⟨x,hx⟩:∃x,r[k-1]? =some x:=⟨_,eG (by omega)⟩;have cx:y1.cell? ⟨b,o+(k-1)*8+7,none⟩=some (.int .i64 x.2):=uF.o y1 wu.o (k-1) x hx 7 _ rfl;have d1:decide ((k:Int)=0)=false:=by simp;omega
      have d1':((k:Int)==0)=false:=by simp;omega
      have ik1:(k:Int)-1<(r.length:Int):=by omega
      have ik2:0≤(k:Int)-1:=by omega
      have ek:((k:Int)-1).toNat=k-1:=by omega
      by_cases hid:x.2=c.2
      ·have HX:Hid _:=hid;have HC:Hid ((mend none r).take (k+1)=(mend none r).take k++[c]):=by
        show _=_;rw[HT.o,ai hk0,hx,BB];rintro(⟨h,_⟩|⟨_,h⟩)
        ·omega
        ·exact h x rfl hid
       rw[hid]at cx;go_wp2_with fail;go_quiet (fail);have S2:Sm wr y1:=wu.o;have g2:=nZ.o;have O2:gL y1 w.heap.size u3 ((mend none r).take k):=HO.o.below (S2.below (bN _) (fun _ _ h=>h));have B2:Below w.heap.size w y1:=HB.o.trans (S2.below HB.o.size (fun _ _ h=>h));have Ar:Hid (gL y1 w.heap.size u3 ((mend none r).take k)):=O2;have HG2:Hid _:=g2;have HB2:Hid _:=B2;clear O2 B2 g2;go_wp2_with (first|(refine fC rfl 177 (.tmp 5) rfl g rfl 177 _ (0,0) _ HG2.o underlying177 rfl lV ?_)|(refine pU _ rfl (.tmp 56) rfl c rfl ?_)|(refine o6 _ rfl (.tmp 55) (.tmp 57) rfl w.heap.size _ _ c rfl Ar.o rfl mW.o HB2.o.size ?_));intro v' w' own' g';have b':=ji HB2.o HB2.o.size Ar.o ⟨g'.os,g'.tape,g'.output,g'.size,g'.block⟩;rw[←HC.o]at own';go_wp2_with fail;go_roundw
       case rel=>exact⟨k+1,by omega,by go_num,own',b'⟩
       case measure=>simp[intOf];omega
      ·have HX:Hid _:=hid;have HC:Hid ((mend none r).take (k+1)=(mend none r).take k++[aM]):=by show _=_;rw[HT.o,ai hk0,hx,vT];exact .inr ⟨hp2,fun y hy=>by cases hy;exact hid⟩
       go_wp2_with fail;go_quiet (fail);go_wp2_with fail;refine(mX _).mono ?_;rintro e z1 ⟨rfl,q0⟩;have q1:Sm y1 z1:=⟨q0.os,q0.tape,q0.output,q0.size,q0.block⟩;clear q0;have QH:z1.heap[g]? =some (.cells (tF c).toArray 177 (0,0)):=(q1.block g hgl id).trans nZ.o;go_wp2_with (refine bK _ rfl 177 (.tmp 5) (.tmp 54) rfl g (tF c) (tF aM) rfl _ rfl rfl 177 QH rfl lV (tJ _) ?_);intro z2 g2 k2 y2;have S2:Sm wr z2:=BX (wu.o.trans q1) k2 hgw;clear k2 y2 q1 QH;have O2:gL z2 w.heap.size u3 ((mend none r).take k):=HO.o.below (S2.below (bN _) (fun _ _ h=>h));have B2:Below w.heap.size w z2:=HB.o.trans (S2.below HB.o.size (fun _ _ h=>h));have Ar:Hid (gL z2 w.heap.size u3 ((mend none r).take k)):=O2;have HG2:Hid _:=g2;have HB2:Hid _:=B2;clear O2 B2 g2;go_wp2_with (first|(refine fC rfl 177 (.tmp 5) rfl g rfl 177 _ (0,0) _ HG2.o underlying177 rfl lV ?_)|(refine pU _ rfl (.tmp 56) rfl aM rfl ?_)|(refine o6 _ rfl (.tmp 55) (.tmp 57) rfl w.heap.size _ _ aM rfl Ar.o rfl mW.o HB2.o.size ?_));intro v' w' own' g';have b':=ji HB2.o HB2.o.size Ar.o ⟨g'.os,g'.tape,g'.output,g'.size,g'.block⟩;rw[←HC.o]at own';go_wp2_with fail;go_roundw
       case rel=>exact⟨k+1,by omega,by go_num,own',b'⟩
       case measure=>simp[intOf];omega
    ·have e1:(c.1.part==1)=false:=by simp[hp1]
     have e2:(c.1.part==2)=false:=by simp[hp2]
     have HC:Hid ((mend none r).take (k+1)=(mend none r).take k++[c]):=by
      show _=_;rw[HT.o,BB];rintro(⟨h,_⟩|⟨h,_⟩)
      ·exact hp1 h
      ·exact hp2 h
     have S2:Sm wr y1:=wu.o;have g2:=nZ.o;have O2:gL y1 w.heap.size u3 ((mend none r).take k):=HO.o.below (S2.below (bN _) (fun _ _ h=>h));have B2:Below w.heap.size w y1:=HB.o.trans (S2.below HB.o.size (fun _ _ h=>h));have Ar:Hid (gL y1 w.heap.size u3 ((mend none r).take k)):=O2;have HG2:Hid _:=g2;have HB2:Hid _:=B2;clear O2 B2 g2;go_wp2_with (first|(refine fC rfl 177 (.tmp 5) rfl g rfl 177 _ (0,0) _ HG2.o underlying177 rfl lV ?_)|(refine pU _ rfl (.tmp 56) rfl c rfl ?_)|(refine o6 _ rfl (.tmp 55) (.tmp 57) rfl w.heap.size _ _ c rfl Ar.o rfl mW.o HB2.o.size ?_));intro v' w' own' g';have b':=ji HB2.o HB2.o.size Ar.o ⟨g'.os,g'.tape,g'.output,g'.size,g'.block⟩;rw[←HC.o]at own';go_wp2_with fail;go_roundw
     case rel=>exact⟨k+1,by omega,by go_num,own',b'⟩
     case measure=>simp[intOf];omega
  ·have ik:¬(k:Int)<(r.length:Int):=by omega
   obtain rfl:k=r.length:=by omega
   rw[←Hq r none,List.take_length]at own;go_wp2_with fail;go_ret;exact⟨_,rfl,own,iB⟩
theorem dF.open{v:Value}(h:dF w B v r)(hne:0<r.length):∃b o cap,v= .slice (some ⟨b,o,none⟩) r.length cap∧r.length≤cap:=by obtain⟨a,cap,h1,h2,h3⟩:=h;obtain⟨b,o,e,_⟩:=h3 0 _ (eG hne);exact⟨b,o,cap,by rw[h1,e],h2⟩
theorem dF.Ca{o:Nat}(h:dF w B (.slice (some ⟨b,o,none⟩) n cap) r)(m:Nat)(hm:m≤n):dF w B (.slice (some ⟨b,o,none⟩) m cap) (r.take m):=by have:=h.part 0 m (by omega);simpa using this
theorem dF.aa2{o:Nat}(h:dF w B (.slice (some ⟨b,o,none⟩) n cap) r)(i:Nat)(hi:i≤n):dF w B (.slice (some ⟨b,o+i*8,none⟩) (n-i) (cap-i)) (r.drop i):=by
 have hl:r.length=n:=by obtain⟨a,c,e,_⟩:=h;cases e;rfl
 have:=h.part i (n-i) (by omega);rw[l6 (by rw[o8];omega)]at this;exact this
theorem dF.Qn{o:Nat}(h:dF w B (.slice (some ⟨b,o,none⟩) n cap) r)(i:Nat)(hi:i≤n):∃ax,(if cap=i then some (⟨b,o,none⟩:Addr)else some ⟨b,o+i*8,none⟩)=ax∧dF w B (.slice ax (n-i) (cap-i)) (r.drop i):=by
 refine⟨_,rfl,?_⟩;have hl:r.length=n∧n≤cap:=by obtain⟨a,c,e,hc,_⟩:=h;cases e;exact⟨rfl,hc⟩
 by_cases hc:cap=i
 ·rw[ak hc];have:r.drop i=[]:=wL (by omega);rw[this,show n-i=0 by omega];exact⟨_,_,rfl,by simp,fun j c hj=>by simp at hj⟩
 ·rw[ai hc];exact h.aa2 i hi
theorem gL.mono{B':Nat}{v:Value}(h:gL w B v r)(hB:B'≤B):gL w B' v r:=by
 obtain⟨h1,h2⟩:=h;refine⟨h1,?_⟩;rcases h2 with h2|⟨g,cap,cur,hv,hg,r⟩
 ·exact Or.inl h2
 ·exact Or.inr ⟨g,cap,cur,hv,iD hB hg,r⟩
theorem lX(v q:Value)(r s:bY)(at':Nat)(Bv Bq:Nat)(w:World)(hr:dF w Bv v r)(hs:dF w Bq q s)(hl:r.length≤100)(ha:at'+s.length≤r.length)(hne:0<r.length):Calls prog 126 #[v,.int .i64 (at':Int),q] w fun e w'=>∃v,e= .returned v∧gL w' w.heap.size v (over r at' s)∧Below w.heap.size w w':=by
 obtain⟨b,o,cap,rfl,hcap⟩:=hr.open hne;obtain⟨qa,qc,rfl,hqc⟩:∃qa qc,q= .slice qa s.length qc∧s.length≤qc:=by obtain⟨qa,qc,e,hqc,_⟩:=hs;exact⟨qa,qc,e,hqc⟩
 have l1:=vJ _ _ _ _ Bv Bq w (hr.Ca at' (by omega)) hs (by simp;omega);have HR:Hid (dF w Bv (.slice (some ⟨b,o,none⟩) r.length cap) r):=hr;have i1:(at':Int)≤(cap:Int):=by omega
 have i2:(at':Int)+(s.length:Int)≤(r.length:Int):=by omega
 have v1:IntKind.i64.wrap ((at':Int)+(s.length:Int))=(at':Int)+(s.length:Int):=bD _ (by omega);clear hr hs;go_enter func126,ntmps126;go_wp2_with fail;refine l1.mono ?_;rintro e w1 ⟨v1',rfl,O1,b1⟩;obtain⟨ax,hax,RX⟩:=(HR.o.below b1).Qn (at'+s.length) (by omega);have l2:=vJ v1' _ _ _ w.heap.size Bv w1 O1.rd RX (by simp;omega);have ej:((at':Int)+(s.length:Int)).toNat=at'+s.length:=by omega
 have i0:0≤(at':Int)+(s.length:Int):=by omega
 have HB1:Hid _:=b1;clear O1 b1 l1 RX;go_wp2_with fail;refine l2.mono ?_;rintro e w2 ⟨v2',rfl,O2,b2⟩;have l3:=xC v2' _ w1.heap.size w2 O2.rd (by simp;omega);have HB2:Hid _:=b2;clear O2 b2 l2;go_wp2_with fail;refine l3.mono ?_;rintro e w3 ⟨v3',rfl,O3,b3⟩;go_wp2_with fail;go_ret;have s1:=HB1.o.size;have s2:=HB2.o.size;refine⟨_,rfl,?_,(HB1.o.trans (HB2.o.mono s1)).trans (b3.mono (by omega))⟩;have e:over r at' s=mend none (r.take at'++s++r.drop (at'+s.length)):=by unfold over;rw[f_]
 rw[e];exact O3.mono (by omega)
theorem Kk(v:Value)(r:bY)(at' n:Nat)(Bv:Nat)(w:World)(hr:dF w Bv v r)(hl:r.length≤100)(ha:at'≤r.length)(hne:0<r.length)(hn:n≤100000):Calls prog 131 #[v,.int .i64 (at':Int),.int .i64 (n:Int)] w fun e w'=>∃v,e= .returned v∧gL w' w.heap.size v (tY r at' n)∧Below w.heap.size w w':=by
 obtain⟨b,o,cap,rfl,hcap⟩:=hr.open hne;have v0:IntKind.i64.wrap ((r.length:Int)-(at':Int))=(r.length:Int)-(at':Int):=bD _ (by omega);have l0:=zA (n:Int) ((r.length:Int)-(at':Int)) w;obtain⟨m,hm⟩:∃m:Nat,m=min n (r.length-at'):=⟨_,rfl⟩;rw[show min (n:Int) ((r.length:Int)-(at':Int))=(m:Int) by omega]at l0;have v1:IntKind.i64.wrap ((at':Int)+(m:Int))=(at':Int)+(m:Int):=bD _ (by omega);have i1:(at':Int)≤(cap:Int):=by omega
 have i2:(at':Int)+(m:Int)≤(r.length:Int):=by omega
 have ej:((at':Int)+(m:Int)).toNat=at'+m:=by omega
 have i0:0≤(at':Int)+(m:Int):=by omega
 obtain⟨ax,hax,RX⟩:=hr.Qn (at'+m) (by omega);have l1:=vJ _ _ _ _ Bv Bv ({w with drawn:=w.drawn+1}:World) ((hr.sm ((Ch.refl _ _).drewN 1)).Ca at' (by omega)) (RX.sm ((Ch.refl _ _).drewN 1)) (by simp;omega);have HRX:Hid _:=RX;clear RX;have HM:Hid _:=hm;have hm1:m≤100:=by omega
 clear hr hm;go_enter func131,ntmps131;go_wp2_with (go_at_call 133;refine l0.mono ?_;rintro e w0 ⟨rfl,hw0⟩;have hw1:=hw0.symm;subst hw1);refine dX (S:=fun _=>True) aX ?_;refine dW 0 1 trivial ?_;refine aj 2 trivial ?_ (v:=.slice (some ⟨b,o,none⟩) at' cap);refine aj 3 trivial ?_;simp only[ag,af];refine dW 4 5 trivial ?_;refine aj 6 trivial ?_ (v:=.int .i64 ((at':Int)+(m:Int)));refine aj 7 trivial ?_ (v:=.slice ax (r.length-(at'+m)) (cap-(at'+m)));simp only[ag,af];refine av 8 ?_;refine a_ (vs:=[.slice (some ⟨b,o,none⟩) at' cap,.slice ax (r.length-(at'+m)) (cap-(at'+m))]) (R:=fun v w'=>gL w' w.heap.size v (r.take at'++r.drop (at'+m))∧Below w.heap.size w w') (l1.mono fun e w' h=>by obtain⟨v,h1,h2,h3⟩:=h;exact⟨_,h1,h2,⟨h3.os,h3.tape,h3.output,h3.size,h3.block⟩⟩) ?_;rintro v2 w1 ⟨O1,b1⟩;refine⟨trivial,?_⟩;simp only[ag,af];refine aj 9 trivial ?_;simp only[ag,af];refine aC ?_;have HO1:Hid (gL w1 w.heap.size v2 (r.take at'++r.drop (at'+m))):=O1;have HB1:Hid _:=b1;clear O1 b1 l1 l0;go_wp2_with fail;refine(iE m w1 (by omega)).mono ?_;rintro e w2 ⟨v3,rfl,O2,b2⟩;have l2:=vJ v2 v3 _ _ w.heap.size w1.heap.size w2 (HO1.o.rd.below b2) O2.rd (by simp;omega);have HB2:Hid _:=b2;clear O2 b2 HO1;go_wp2_with fail;refine l2.mono ?_;rintro e w3 ⟨v4,rfl,O3,b3⟩;have l3:=xC v4 _ w2.heap.size w3 O3.rd (by simp;omega);have HB3:Hid _:=b3;clear O3 b3 l2;go_wp2_with fail;refine l3.mono ?_;rintro e w4 ⟨v5,rfl,O4,b4⟩;go_wp2_with fail;go_ret;have s1:=HB1.o.size;have s2:=HB2.o.size;have s3:=HB3.o.size;refine⟨_,rfl,?_,((HB1.o.trans (HB2.o.mono s1)).trans (HB3.o.mono (by omega))).trans (b4.mono (by omega))⟩;have e:tY r at' n=mend none (r.take at'++r.drop (at'+m)++List.replicate m aM):=by unfold tY;rw[←HM.o,f_]
 rw[e];exact O4.mono (by omega)
theorem xE(v:Value)(r:bY)(at' n:Nat)(Bv:Nat)(w:World)(hr:dF w Bv v r)(hl:r.length≤100)(ha:at'≤r.length)(hne:0<r.length)(hn:n≤100000):Calls prog 123 #[v,.int .i64 (at':Int),.int .i64 (n:Int)] w fun e w'=>∃v,e= .returned v∧gL w' w.heap.size v (pushed r at' n)∧Below w.heap.size w w':=by
 obtain⟨b,o,cap,rfl,hcap⟩:=hr.open hne;have v0:IntKind.i64.wrap ((r.length:Int)-(at':Int))=(r.length:Int)-(at':Int):=bD _ (by omega);have l0:=zA (n:Int) ((r.length:Int)-(at':Int)) w;obtain⟨m,hm⟩:∃m:Nat,m=min n (r.length-at'):=⟨_,rfl⟩;rw[show min (n:Int) ((r.length:Int)-(at':Int))=(m:Int) by omega]at l0;have i1:(at':Int)≤(cap:Int):=by omega
 have i2:(at':Int)≤(r.length:Int):=by omega
 have HR:Hid (dF w Bv (.slice (some ⟨b,o,none⟩) r.length cap) r):=hr;have HM:Hid _:=hm;have hm1:m≤100:=by omega
 have hma:at'+m≤r.length:=by omega
 clear hr hm;go_enter func123,ntmps123;go_wp2_with (go_at_call 133;refine l0.mono ?_;rintro e w0 ⟨rfl,hw0⟩;have hw1:=hw0.symm;subst hw1);refine dX (S:=fun _=>True) aX ?_;refine dW 0 1 trivial ?_;refine aj 2 trivial ?_ (v:=.slice (some ⟨b,o,none⟩) at' cap);refine aj 3 trivial ?_;simp only[ag,af];refine av 4 ?_;refine a_ (vs:=[.int .i64 (m:Int)]) (R:=fun v w'=>gL w' w.heap.size v (List.replicate m aM)∧Below w.heap.size w w') ((iE m _ (by omega)).mono fun e w' h=>by obtain⟨v,h1,h2,h3⟩:=h;exact⟨_,h1,h2,⟨h3.os,h3.tape,h3.output,h3.size,h3.block⟩⟩) ?_;rintro v2 w1 ⟨O1,b1⟩;refine⟨trivial,?_⟩;simp only[ag,af];have lc:=vJ _ v2 _ _ Bv w.heap.size w1 ((HR.o.below b1).Ca at' (by omega)) O1.rd (by simp;omega);have aci:=b1.size;refine av 5 ?_;refine a_ (vs:=[.slice (some ⟨b,o,none⟩) at' cap,v2]) (R:=fun v w'=>gL w' w.heap.size v (r.take at'++List.replicate m aM)∧Below w.heap.size w w') (lc.mono fun e w' h=>by obtain⟨v,h1,h2,h3⟩:=h;exact⟨_,h1,h2.mono aci,b1.trans (h3.mono aci)⟩) ?_;rintro v3 w2 ⟨O2,b2⟩;refine⟨trivial,?_⟩;simp only[ag,af];refine aj 6 trivial ?_;simp only[ag,af];refine aC ?_;obtain⟨ax,hax,RX⟩:=(HR.o.below b2).Qn at' ha;have l2:=vJ v3 _ _ _ w.heap.size Bv w2 O2.rd RX (by simp;omega);have HB2:Hid _:=b2;clear O2 b2 O1 b1 lc RX;go_wp2_with fail;refine l2.mono ?_;rintro e w3 ⟨v4,rfl,O3,b3⟩;obtain⟨b',o',cap',rfl,V5⟩:=O3.rd.open (by simp;omega);have hl4:(r.take at'++List.replicate m aM++r.drop at').length=r.length+m:=by simp;omega
 rw[hl4]at V5 O3 ⊢;have l3:=xC _ _ w2.heap.size w3 (O3.rd.Ca r.length (by omega)) (by simp;omega);have HB3:Hid _:=b3;have i3:(r.length:Int)≤(cap':Int):=by omega
 clear O3 b3 l2;go_wp2_with fail;refine l3.mono ?_;rintro e w4 ⟨v5,rfl,O4,b4⟩;go_wp2_with fail;go_ret;have s2:=HB2.o.size;have s3:=HB3.o.size;refine⟨_,rfl,?_,(HB2.o.trans (HB3.o.mono (by omega))).trans (b4.mono (by omega))⟩;have e:pushed r at' n=mend none ((r.take at'++List.replicate m aM++r.drop at').take r.length):=by unfold pushed;rw[←HM.o,f_]
 rw[e];exact O4.mono (by omega)
end Go.Proofs.YtheibfffilomcaaGreatDoor
