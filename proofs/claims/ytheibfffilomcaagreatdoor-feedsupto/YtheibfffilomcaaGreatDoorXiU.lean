import Derived.Test.YtheibfffilomcaaGreatDoorTmaU
import Derived.Test.YtheibfffilomcaaGreatDoorUbU
import Derived.Test.YtheibfffilomcaaGreatDoorEvbU
import Derived.Test.YtheibfffilomcaaGreatDoorEqcU
import Derived.Test.YtheibfffilomcaaGreatDoorGaU
set_option linter.all false
namespace Go.Proofs.YtheibfffilomcaaGreatDoor
open Go.RowKit Go.Proofs.Tryz
variable {r A:bY} {w w' u w0:World} {a B n ah base:Nat} {N:Int} {P M Q:List aI} {L:ze} {ops:Array Oper} {rest:List Oper}
theorem Ac(L:ze):(iU L).length=(kX L).length:=by cases L<;>rfl
theorem LG(L:ze):(iU L).length=(m_ L).length:=by cases L<;>rfl
theorem RN(x:aI)(hP:P.length=a)(hM:M.length=1):(P++(M++Q)).set a x=P++([x]++Q):=by
 match M,hM with
 | [m],_=>subst hP;simp
theorem RO(x y:aI)(hP:P.length=a)(hM:M.length=2):((P++(M++Q)).set a x).set (a+1) y=P++([x,y]++Q):=by
 match M,hM with
 | [m,n],_=>subst hP;simp
def mQ (c:Int) (p:fO) (wd:Nat) (i:Int):bY:=if wd=2 then[(⟨c,p,1⟩,i),(⟨0,p,2⟩,i)]else[(⟨c,p,0⟩,0)]
theorem Rk(hN:0≤N)(h:Ao N r)(c:Int)(p:fO)(wd:Nat)(hwd:wd=1∨wd=2)(hb:a+wd≤r.length):strip (over r a (mQ c p wd (N+1)))=yC (strip r) a c wd p∧Ao (if wd=2 then N+1 else N) (over r a (mQ c p wd (N+1))):=by
 obtain⟨A,L,M,R,B,hc,rfl,ha,hb',hs⟩:=h.cut (a:=a) (b:=a+wd) (by omega) hb;have hlen:(mQ c p wd (N+1)).length=(m_ L++(M++kX R)).length:=by
  have:(mQ c p wd (N+1)).length=wd:=by rcases hwd with rfl|rfl<;>rfl
  simp only[fU]at ha hb' ⊢;omega
 have hq:gF (mQ c p wd (N+1)):=by
  rcases hwd with rfl|rfl
  ·exact .one _ _ rfl .nil
  ·exact .two ⟨c,p,1⟩ (N+1) [] rfl .nil
 have e:=DL hc _ hq (by rcases hwd with rfl|rfl<;>simp[mQ]) (fun x hx=>by
  rcases hwd with rfl|rfl
  ·simp[mQ]at hx;subst hx;exact .inl rfl
  ·simp[mQ]at hx;rcases hx with rfl|rfl<;>(right;show N<N+1;omega)) hlen
 rw[ha]at e;rw[e];have t1:=Ac L;have t2:=LG L;have t3:=Ac R;have e0:A++(iU L++(iU L++(M++(iU R++(iU R++B)))))=(A++iU L)++((iU L++(M++iU R))++(iU R++B)):=by simp
 have hP:(strip (A++iU L)).length=a:=by rw[aU, ←ha];simp only[fU];omega
 have hM:(strip (iU L++(M++iU R))).length=wd:=by rw[aU];simp only[fU]at ha hb' ⊢;omega
 constructor
 ·unfold yC;rw[hs,e0,fG (A++iU L),fG (iU L++(M++iU R))];rcases hwd with rfl|rfl
  ·rw[ai (by decide),RN _ hP hM];simp[mQ,strip]
  ·rw[ak rfl,RO _ _ hP hM];simp[mQ,strip]
 ·rcases hwd with rfl|rfl
  ·exact E_ hc _ hq (by simp) (by simp[mQ,dB,hid]) (by simp[mQ,dB,hid]) hN
  ·exact E_ hc _ hq (by simp;omega) (by simp[mQ,dB,hid]) (by simp[mQ,dB,hid];omega) hN
theorem DD{r:List aI}(hb:a+n≤r.length)(e:aJ (aJ r a) (r.length-n)=P++(M++Q))(h1:P.length=a)(h2:M.length=r.length-n-a):wF r a n=P++(List.replicate n aD++M):=by
 have hl:r.length=P.length+(M.length+Q.length):=by rw[←fU, ←fU, ←e,aH,aH]
 unfold wF;rw[e];have e1:((P++(M++Q)).drop a).take (r.length-(a+n))=M:=by rw[←h1,List.drop_left,show r.length-(P.length+n)=M.length by omega,uu]
 rw[e1];unfold jZ;have e2:(P++(M++Q)).drop (a+n+M.length)=[]:=wL (by simp;omega);rw[e2,gp];unfold jv;have hT:((P++(M++Q)).take (a+n)).length=a+n:=by simp;omega
 have e3:((P++(M++Q)).take (a+n)++M).take a=P:=by rw[List.take_append_of_le_length (by omega),List.take_take,rT (by omega), ←h1,uu]
 have e4:((P++(M++Q)).take (a+n)++M).drop (a+n)=M:=by rw[List.drop_append,wL (by omega),hT];simp
 rw[e3,e4]
theorem NK{r:List aI}(hb:a+n≤r.length)(e:aJ (aJ r a) (a+n)=P++(M++Q))(h1:P.length=a)(h2:M.length=n):wH r a n=P++(Q++List.replicate n aD):=by
 have hl:r.length=P.length+(M.length+Q.length):=by rw[←fU, ←fU, ←e,aH,aH]
 unfold wH;rw[e];have e1:(P++(M++Q)).drop (a+n)=Q:=by rw[←f_,show a+n=(P++M).length by simp;omega,List.drop_left]
 rw[e1];unfold jZ jv;have e2:(P++(M++Q)).take a=P:=by rw[←h1,uu]
 rw[e2];have e3:(P++(Q++(P++(M++Q)).drop (a+Q.length))).take (r.length-n)=P++Q:=by rw[←f_,show r.length-n=(P++Q).length by simp;omega,uu]
 have e4:(P++(Q++(P++(M++Q)).drop (a+Q.length))).drop (r.length-n+n)=[]:=wL (by simp;omega);rw[e3,e4,gp,f_]
theorem Cut.ok3{M:bY}{R:ze}{B:bY}(h:Cut N A L M R B)(X:bY)(hX:gF X)(hi:dB X=dB A++dB B∨dB X=dB A++dB M):Ao N X:=by
 have nd:=h.nd;have bd:=h.bd;simp only[List.nodup_append,nM]at nd bd;refine⟨hX,?_,?_⟩
 ·rcases hi with e|e<;>rw[e]<;>simp only[List.nodup_append]
  ·exact⟨nd.1,nd.2.1.2.1.2.1.2.1,fun a ha b hb=>nd.2.2 a ha b (by simp[hb])⟩
  ·exact⟨nd.1,nd.2.1.2.1.1,fun a ha b hb=>nd.2.2 a ha b (by simp[hb])⟩
 ·intro i hi';rcases hi with e|e<;>rw[e]at hi'<;>simp only[nM]at hi'<;>rcases hi' with k|k<;>exact bd i (by simp[k])
theorem NG(h:Ao N r)(ha0:a<r.length)(hn:1≤n):strip (tY r a n)=jT (strip r) a n∧Ao N (tY r a n):=by
 unfold tY jT;rw[aU];obtain⟨m,hm⟩:∃m,m=min n (r.length-a):=⟨_,rfl⟩;rw[←hm];have hm1:1≤m:=by omega
 have hml:a+m≤r.length:=by omega
 clear hm;obtain⟨A,L,M,R,B,hc,rfl,ha,hb',hs⟩:=h.cut (a:=a) (b:=a+m) (by omega) hml;have e1:(A++(kX L++(m_ L++(M++(kX R++(m_ R++B)))))).take a=A++kX L:=by rw[←f_];exact List.take_left' ha
 have e2:(A++(kX L++(m_ L++(M++(kX R++(m_ R++B)))))).drop (a+m)=m_ R++B:=by
  have:A++(kX L++(m_ L++(M++(kX R++(m_ R++B)))))=(A++(kX L++(m_ L++(M++kX R))))++(m_ R++B):=by simp
  rw[this];exact List.drop_left' hb'
 have nd:=hc.nd;have bd:=hc.bd;simp only[List.nodup_append,nM]at nd bd;have hLR:∀c d,L=some c→R=some d→d.2≠c.2:=fun c d q1 q2=>by subst q1 q2;exact fun e=>nd.2.1.2.2 c.2 (by simp) d.2 (by simp) e.symm
 have hLB:∀c,L=some c→c.2∉dB B:=fun c q1 k=>by subst q1;exact nd.2.1.2.2 c.2 (by simp) c.2 (by simp[k]) rfl
 have hRA:∀c,R=some c→c.2∉dB A:=fun c q1 k=>by subst q1;exact nd.2.2 c.2 k c.2 (by simp) rfl
 have key:mend none (A++kX L++(m_ R++B++List.replicate m aM))=A++(iU L++(iU R++(B++List.replicate m aM))):=by
  rw[f_,nu hc.gA,Aw hc.hL _ _ (fun c hcc x hx=>?_),f_,EZ _ _ (fun c hcc x hx=>?_)]
  ·have:=nu (hc.gB.append (gF.blank m)) [] (mR (mR (mR none A) (kX L)) (m_ R));rw[gp]at this;rw[this];simp[mend]
  ·have hp:=hc.aaP hcc;cases L with
   |none=>
    rcases zy (x:=A) hx with k|⟨_,k⟩
    ·rcases hc.gA.ids x k with j|j
     ·omega
     ·exact fun e=>hRA c hcc (e▸j)
    ·cases k
   |some d=>
    have:d=x:=by simpa[kX,mR]using hx
    subst this;exact fun e=>hLR _ _ rfl hcc e.symm
  ·have hp:=hc.Uh hcc;cases R with
   |none=>
    have hx':x∈B++List.replicate m aM:=head_mem (by simpa[m_]using hx);rcases nM.1 hx' with k|k
    ·rcases hc.gB.ids x k with j|j
     ·omega
     ·exact fun e=>hLB c hcc (e▸j)
    ·rw[AJ k];show(0:Int)≠c.2;omega
   |some d=>
    have:(jQ d.1,d.2)=x:=by simpa[m_]using hx
    subst this;exact hLR c d hcc rfl
 rw[e1,e2,key];have t1:=Ac L;have t2:=LG L;have t3:=Ac R;have e0:A++(iU L++(iU L++(M++(iU R++(iU R++B)))))=(A++iU L)++((iU L++(M++iU R))++(iU R++B)):=by simp
 rw[e0,fG (A++iU L),fG (iU L++(M++iU R))]at hs;constructor
 ·rw[NK (by rw[aU];exact hml) hs (by rw[aU, ←ha];simp only[fU];omega) (by rw[aU];simp only[fU]at ha hb' ⊢;omega)];simp only[fG,ku,f_]
 ·refine hc.ok3 _ (hc.gA.append ((rz L).append ((rz R).append (hc.gB.append (gF.blank m))))) (.inl ?_);simp only[lN,xx,kQ,mP,gp]
theorem Iw{B:bY}(hB:gF B)(ha:(A++kX L).length=a):aJ (strip (A++(iU L++(iU L++B)))) a=strip (A++(iU L++(iU L++B))):=by have:=vX (A:=A++iU L) (L:=none) (B:=iU L++B) (a:=a) ((rz L).append hB) (by have e:=Ac L;rw[fU]at ha;rw[fU,fU];show _+_+0=_;omega);simpa[kX,m_,iU]using this
theorem DU(hN:0≤N)(h:Ao N r)(ha0:a<r.length)(hn:1≤n):strip (pushed r a n)=jd (strip r) a n∧Ao N (pushed r a n):=by
 unfold pushed jd;rw[aU];obtain⟨m,hm⟩:∃m,m=min n (r.length-a):=⟨_,rfl⟩;rw[←hm];have hm1:1≤m:=by omega
 have hml:a+m≤r.length:=by omega
 clear hm;have e0:(r.take a++(List.replicate m aM++r.drop a)).take r.length=r.take a++(List.replicate m aM++(r.drop a).take (r.length-m-a)):=by rw[List.take_append,List.take_append];simp only[kg,kJ,List.take_take,List.take_replicate];rw[rT (show a≤r.length by omega),wO (by omega:a≤r.length),wO (by omega),show r.length-a-m=r.length-m-a by omega]
 rw[e0];by_cases hab:a<r.length-m
 ·obtain⟨A,L,M,R,B,hc,hr,ha,hb',hs⟩:=h.cut (b:=r.length-m) hab (by omega);have e1:r.take a=A++kX L:=by rw[hr, ←f_];exact List.take_left' ha
  have e2:(r.drop a).take (r.length-m-a)=m_ L++(M++kX R):=by
   have:A++(kX L++(m_ L++(M++(kX R++(m_ R++B)))))=(A++kX L)++((m_ L++(M++kX R))++(m_ R++B)):=by simp
   conv=>lhs;arg 2;rw[hr,this]
   rw[List.drop_left' ha];exact List.take_left' (by simp only[fU]at ha hb' ⊢;omega)
  rw[e1,e2];obtain⟨k,rfl⟩:∃k,m=k+1:=⟨m-1,by omega⟩;have key:mend none (A++kX L++(List.replicate (k+1) aM++(m_ L++(M++kX R))))=A++(iU L++(List.replicate (k+1) aM++(iU L++(M++iU R)))):=by
   rw[f_,nu hc.gA,Aw hc.hL _ _ (fun c hcc x hx=>?_),nu (gF.blank (k+1)),EZ _ _ (fun c hcc x hx=>?_),nu hc.gM]
   ·have:=Aw hc.hR (mR (mR (mR (mR (mR none A) (kX L)) (List.replicate (k+1) aM)) (m_ L)) M) [] (fun c hcc x hx=>by cases hx);rw[gp]at this;rw[this];simp[mend]
   ·have hp:=hc.Uh hcc;rcases zy hx with k|⟨k,_⟩
    ·rw[AJ k];show(0:Int)≠c.2;omega
    ·simp at k
   ·have hp:=hc.Uh hcc;simp[AO]at hx;subst hx;show(0:Int)≠c.2;omega
  rw[key];have t1:=Ac L;have t2:=LG L;have t3:=Ac R;have e0:A++(iU L++(iU L++(M++(iU R++(iU R++B)))))=(A++iU L)++((iU L++(M++iU R))++(iU R++B)):=by simp
  rw[e0,fG (A++iU L),fG (iU L++(M++iU R))]at hs;constructor
  ·rw[DD (by rw[aU];exact hml) (by rw[aU];exact hs) (by rw[aU, ←ha];simp only[fU];omega) (by rw[aU,aU];simp only[fU]at ha hb' ⊢;omega)];simp only[fG,ku,f_]
  ·refine hc.ok3 _ (hc.gA.append ((rz L).append ((gF.blank _).append ((rz L).append (hc.gM.append (rz R)))))) (.inr ?_);simp only[lN,xx,kQ,mP,gp]
 ·have hm2:m=r.length-a:=by omega
  have e1:(r.drop a).take (r.length-m-a)=[]:=by rw[show r.length-m-a=0 by omega];rfl
  have eo:r.take a++(List.replicate m aM++(r.drop a).take (r.length-m-a))=r.take a++(List.replicate (r.length-a) aM++r.drop (a+(List.replicate (r.length-a) aM).length)):=by rw[e1,hm2,wL (by simp;omega)]
  have:=tX hN h (a:=a) (b:=r.length) ha0 (bN _);unfold over at this;rw[←eo]at this;refine⟨this.1.trans ?_,this.2⟩;obtain⟨A,L,B,rfl,h2,h3,h4,h5⟩:=h.g.cut a (by omega);have hs:=vX h4 h2;have hs2:=Iw h4 h2;have t1:=Ac L;have hP:(strip (A++iU L)).length=a:=by rw[aU, ←h2];simp only[fU];omega
  have e3:A++(iU L++(iU L++B))=(A++iU L)++(iU L++B):=by simp
  rw[DD (P:=strip (A++iU L)) (M:=[]) (Q:=strip (iU L++B)) (by rw[aU];exact hml) (by rw[aU,show(A++(kX L++(m_ L++B))).length-m=a by omega,hs,hs2,e3,fG (A++iU L)];rfl) hP (by rw[aU,hm2];simp;omega)];unfold dP jv;have hlast:aJ (aJ (strip (A++(kX L++(m_ L++B)))) a) (A++(kX L++(m_ L++B))).length=aJ (strip (A++(kX L++(m_ L++B)))) a:=
   sG (fun x hx=>by rw[wM (by rw[aH,aU];exact bN _)]at hx;cases hx)
  rw[hlast,hs,e3,fG (A++iU L),List.take_left' hP,hm2,wL,gp];rw[fU,hP,aU];have t2:=LG L;simp only[fU]at h2 ha0 ⊢;omega
theorem CE(S:bS)(a n len:Nat)(hn:1≤n)(hl:a+len≤S.length):∀i,i+n≤len→∀j,(iI S a n len i).getD j []=if a+(len-i)≤j∧j<a+len then S.getD (j-n) []else S.getD j []:=by
 intro i;induction i with
 |zero=>intro _ j;rw[ai (by omega)];rfl
 |succ i ih=>
  intro hi j;rw[iI,r9,ja,ih (by omega),ih (by omega)];by_cases h:j=a+(len-1-i)
  ·subst h;rw[ak ⟨rfl,by omega⟩,ai (by omega),ak (by omega)]
  ·rw[ai (by omega)];by_cases h2:a+(len-i)≤j∧j<a+len
   ·rw[ak h2,ak (by omega)]
   ·rw[ai h2,ai (by omega)]
abbrev cz:=List bY
def dM (S:cz):bS:=S.map strip
theorem bF(S:cz):(dM S).length=S.length:=List.length_map _
theorem gV(S:cz)(j:Nat):(dM S).getD j []=strip (S.getD j []):=by unfold dM;simp only[List.getD,pW];cases S[j]? <;>rfl
theorem KO(S:cz)(j:Nat)(r:bY):dM (S.set j r)=(dM S).set j (strip r):=List.map_set
def bI (S:cz) (top bottom n:Int) (ah:Nat):cz:=
 (List.range S.length).map fun(i:Nat)=>if(i:Int)<top∨bottom<(i:Int)then S.getD i []else if(i:Int)+n<top∨bottom<(i:Int)+n then List.replicate ah aM else S.getD ((i:Int)+n).toNat []
theorem fZ(S:cz)(top bottom n:Int)(ah:Nat):(bI S top bottom n ah).length=S.length:=by simp[bI]
theorem nW(S:cz)(top bottom n:Int)(ah i:Nat)(hi:i<S.length):(bI S top bottom n ah).getD i []=if(i:Int)<top∨bottom<(i:Int)then S.getD i []else if(i:Int)+n<top∨bottom<(i:Int)+n then List.replicate ah aM else S.getD ((i:Int)+n).toNat []:=by unfold bI;simp only[List.getD,pW,List.getElem?_range hi];rfl
theorem Im(S:cz)(top bottom:Int)(n ah:Nat)(h0:0≤top)(htb:top≤bottom+1)(hb:bottom<(S.length:Int))(hn:1≤n):dM (bI S top bottom n ah)=FX (dM S) top.toNat (bottom+1-top).toNat n ah:=by
 obtain⟨a,rfl⟩:∃a:Nat,top=(a:Int):=⟨top.toNat,by omega⟩;obtain⟨len,hlen⟩:∃len:Nat,bottom+1-(a:Int)=(len:Int):=⟨(bottom+1-(a:Int)).toNat,by omega⟩;rw[hlen,lF,lF];have hb':bottom=(a:Int)+(len:Int)-1:=by omega
 subst hb';apply zM
 ·rw[bF,fZ,uj,bF]
 intro j hj;rw[bF,fZ]at hj;rw[gV,nW _ _ _ _ _ _ hj];unfold FX;rw[lK _ _ _ _ (by rw[jO,bF];omega)];by_cases hnl:n≤len
 ·rw[IP _ _ _ _ (by rw[bF];omega)];by_cases h1:(j:Int)<(a:Int)∨(a:Int)+(len:Int)-1<(j:Int)
  ·rw[ak h1,ai (by omega),ai (by omega),gV]
  ·rw[ai h1];by_cases h2:(j:Int)+(n:Int)<(a:Int)∨(a:Int)+(len:Int)-1<(j:Int)+(n:Int)
   ·rw[ak h2,ak (by omega),ku];rfl
   ·rw[ai h2,ai (by omega),ak (by omega),gV,show((j:Int)+(n:Int)).toNat=j+n by omega]
 ·rw[show len-min n len=0 by omega];show _=if _ then _ else(dM S).getD j [];by_cases h1:(j:Int)<(a:Int)∨(a:Int)+(len:Int)-1<(j:Int)
  ·rw[ak h1,ai (by omega),gV]
  ·rw[ai h1,ak (by omega),ak (by omega),ku];rfl
theorem CJ(S:cz)(top bottom:Int)(n ah:Nat)(h0:0≤top)(htb:top≤bottom+1)(hb:bottom<(S.length:Int))(hn:1≤n):dM (bI S top bottom (-(n:Int)) ah)=oC (dM S) top.toNat (bottom+1-top).toNat n ah:=by
 obtain⟨a,rfl⟩:∃a:Nat,top=(a:Int):=⟨top.toNat,by omega⟩;obtain⟨len,hlen⟩:∃len:Nat,bottom+1-(a:Int)=(len:Int):=⟨(bottom+1-(a:Int)).toNat,by omega⟩;rw[hlen,lF,lF];have hb':bottom=(a:Int)+(len:Int)-1:=by omega
 subst hb';apply zM
 ·rw[bF,fZ,qi,bF]
 intro j hj;rw[bF,fZ]at hj;rw[gV,nW _ _ _ _ _ _ hj];unfold oC;rw[lK _ _ _ _ (by rw[ja,bF];omega)];by_cases hnl:n≤len
 ·rw[rT hnl,CE _ _ _ _ hn (by rw[bF];omega) _ (by omega)];by_cases h1:(j:Int)<(a:Int)∨(a:Int)+(len:Int)-1<(j:Int)
  ·rw[ak h1,ai (by omega),ai (by omega),gV]
  ·rw[ai h1];by_cases h2:(j:Int)+ -(n:Int)<(a:Int)∨(a:Int)+(len:Int)-1<(j:Int)+ -(n:Int)
   ·rw[ak h2,ak (by omega),ku];rfl
   ·rw[ai h2,ai (by omega),ak (by omega),gV,show((j:Int)+ -(n:Int)).toNat=j-n by omega]
 ·rw[wO (by omega),show len-len=0 by omega];show _=if _ then _ else(dM S).getD j [];by_cases h1:(j:Int)<(a:Int)∨(a:Int)+(len:Int)-1<(j:Int)
  ·rw[ak h1,ai (by omega),gV]
  ·rw[ai h1,ak (by omega),ak (by omega),ku];rfl
def Aa (N:Int) (ah:Nat) (S:cz):Prop:=∀r∈S,Ao N r∧r.length=ah
theorem Aa.getD{S:cz}(h:Aa N ah S){i:Nat}(hi:i<S.length):Ao N (S.getD i [])∧(S.getD i []).length=ah:=by
 have e:S.getD i []=S[i]:=by simp[List.getD,eG hi]
 rw[e];exact h _ (zW hi)
theorem Aa.set{S:cz}(h:Aa N ah S)(i:Nat)(hr:Ao N r∧r.length=ah):Aa N ah (S.set i r):=fun q hq=>by
 rcases List.mem_or_eq_of_mem_set hq with hq|rfl
 ·exact h q hq
 ·exact hr
theorem Aa.mono{M:Int}{S:cz}(h:Aa N ah S)(hm:N≤M):Aa M ah S:=fun r hr=>⟨(h r hr).1.mono hm,(h r hr).2⟩
theorem Aa.RL{S:cz}(h:Aa N ah S)(top bottom n:Int)(h0:0≤top)(hb:bottom<(S.length:Int)):Aa N ah (bI S top bottom n ah):=by
 intro r hr;obtain⟨i,hi,rfl⟩:=List.getElem_of_mem hr;rw[fZ]at hi;have e:=nW S top bottom n ah i hi;have e':(bI S top bottom n ah).getD i []=(bI S top bottom n ah)[i]:=by simp[List.getD,eG (show i<(bI S top bottom n ah).length by rw[fZ];exact hi)]
 rw[←e',e];split
 ·exact h.getD hi
 ·split
  ·exact⟨Ao.blank N ah,by simp⟩
  ·exact h.getD (by omega)
theorem Aa.fresh(N:Int)(rows ah:Nat):Aa N ah (List.replicate rows (List.replicate ah aM)):=fun r hr=>by rw[AJ hr];exact⟨Ao.blank N ah,by simp⟩
def tF (c:DC):List Value:=cellV c.1++[.int .i64 c.2]
def Dr (c:DC):Array Value:=(tF c).toArray
def Mr:DC:=(nG,0)
theorem vL(c:DC):(tF c).length=8:=rfl
theorem tJ(c:DC):∀v∈tF c,v.oneCell'=true:=by intro v hv;have:(tF c).all (·.oneCell')=true:=rfl;exact List.all_eq_true.1 this v hv
theorem acj:(prog.info? 177).map (fun i=>(i.zero,i.size,i.bytes))=some (some (.agg (Dr Mr)),8,48):=by kernel_rfl
theorem lV:(prog.info? 177).map (·.size)=some 8:=by kernel_rfl
def pz (r:bY):List Value:=r.flatMap tF
theorem EP(a b:bY):pz (a++b)=pz a++pz b:=List.flatMap_append
theorem vO(r:bY)(j:Nat)(c:DC)(h:r[j]? =some c)(i:Nat)(hi:i<8):(pz r)[j*8+i]? =(tF c)[i]? :=by
 induction r generalizing j with
 |nil=>simp at h
 |cons d r ih=>
  show(tF d++pz r)[j*8+i]? =_;cases j with
  |zero=>simp at h;subst h;rw[qA (by rw[vL];omega)];simp
  |succ j=>rw[og (by rw[vL];omega),vL,show(j+1)*8+i-8=j*8+i by omega];exact ih j (by simpa using h)
def gL (w:World) (base:Nat) (v:Value) (r:bY):Prop:=w.ownsRow base 177 8 v r.length (pz r)
theorem gL.nil(w:World)(base:Nat):gL w base (.slice none 0 0) []:=AU _ _ _ _
theorem gL.below{v:Value}(h:gL w base v r)(hb:Below w.heap.size w w'):gL w' base v r:=
 xU (row:=none) h ⟨hb.os,hb.tape,hb.output,hb.size,fun k hk _=>hb.block k hk⟩ (by cases hv:v.ownBlock<;>simp)
def dF (w:World) (B:Nat) (v:Value) (r:bY):Prop:=∃a cap,v= .slice a r.length cap∧r.length≤cap∧∀j c,r[j]? =some c→∃b o,a=some ⟨b,o,none⟩∧(B≤b∧∃cur fr,w.heap[b]? =some (.cells cur 177 fr)∧∃x,cur[1]? =some (.bool x))∧b<w.heap.size∧w.rangeAt b (o+j*8) (tF c)
theorem gL.rd{v:Value}(h:gL w base v r):dF w base v r:=by
 obtain⟨h1,h2⟩:=h;rcases h2 with⟨rfl,h0⟩|⟨g,cap,cur,rfl,hgb,hg,hn,_,hcs,htake⟩
 ·refine⟨none,0,by rw[h0],by omega,fun j x hj=>?_⟩;have:r=[]:=zT h0;subst this;simp at hj
 ·refine⟨_,cap,rfl,hn,fun j c hj=>⟨g,0,rfl,⟨hgb,_,_,hg,?_⟩,(wK.1 hg).1,fun i v hv=>?_⟩⟩
  ·obtain⟨c0,hc0⟩:∃c0,r[0]? =some c0:=⟨_,eG (by have:=(gJ.1 hj).1;omega)⟩;have e1:=vO r 0 c0 hc0 1 (by omega);rw[←htake,mJ]at e1;refine⟨c0.1.p.b,?_⟩;split at e1
   ·have e2:(tF c0)[1]? =some (.bool c0.1.p.b):=rfl;rw[e2]at e1;simpa using e1
   ·cases e1
  rw[bG _ _ _ _ _ _ hg,lH];have hi:i<8:=by have:=(gJ.1 hv).1;rw[vL]at this;exact this
  have e:=vO r j c hj i hi;rw[hv, ←htake,mJ]at e;split at e
  ·simpa using e
  ·cases e
theorem dF.mono{B':Nat}{v:Value}(h:dF w B v r)(hb:B'≤B):dF w B' v r:=by obtain⟨a,cap,h1,h2,h3⟩:=h;refine⟨a,cap,h1,h2,fun j c hj=>?_⟩;obtain⟨b,o,e,hB,hlt,hr⟩:=h3 j c hj;exact⟨b,o,e,⟨iD hb hB.1,hB.2⟩,hlt,hr⟩
theorem dF.kept{w w':World}{B:Nat}{v:Value}{r:bY}(h:dF w B v r){P:Nat→Prop}(c:Ch P w w')(hp:∀b,B≤b→¬P b):dF w' B v r:=by obtain⟨a,cap,h1,h2,h3⟩:=h;refine⟨a,cap,h1,h2,fun j x hj=>?_⟩;obtain⟨b,o,e,hB,hlt,hr⟩:=h3 j x hj;have hk:=c.block b hlt (hp b hB.1);obtain⟨hB1,cur,fr,mF,hx⟩:=hB;exact⟨b,o,e,⟨hB1,cur,fr,hk.trans mF,hx⟩,fJ hlt c.size,fun i v hv=>(dA hk).trans (hr i v hv)⟩
theorem dF.sm{v:Value}(h:dF w B v r)(c:Sm w w'):dF w' B v r:=h.kept c (fun _ _ h=>h)
theorem dF.below{v:Value}(h:dF w B v r)(hb:Below w.heap.size w w'):dF w' B v r:=h.sm (Ch.of_below hb)
theorem dF.part{b o cap:Nat}(h:dF w B (.slice (some ⟨b,o,none⟩) n cap) r)(i m:Nat)(hm:i+m≤n):dF w B (.slice (some ⟨b,o+i*8,none⟩) m (cap-i)) ((r.drop i).take m):=by
 obtain⟨a,cap',h1,h2,h3⟩:=h;cases h1;refine⟨_,cap-i,by rw[kg,o8,rT (by omega)],by rw[kg,o8];omega,fun j c hj=>?_⟩;rw[mJ]at hj;split at hj
 ·rw[rf]at hj;obtain⟨b',o',e,hB,hlt,hr⟩:=h3 (i+j) c hj;cases e;exact⟨b,o+i*8,rfl,hB,hlt,by rw[show o+i*8+j*8=o+(i+j)*8 by omega];exact hr⟩
 ·cases hj
theorem pU{o:Oper}{a:Act}{Q:Exit→Act→World→Prop}(u:World)(hgd:o.guard=none)(x:Operand)(ho:o.op= .buildSlice 172 1 #[(0,x)])(c:DC)(hx:a.eval x= .agg (Dr c))(h:wpList prog ops Q rest (a.put o.dst (.slice (some ⟨u.heap.size,0,none⟩) 1 1)) (u.alloc (.cells (Dr c) 177))):wpList prog ops Q (o::rest) a u:=by
 refine oq hgd fun K hK=>?_;have R:=hK _ _ h;have hr:(Instr.buildSlice 172 1 #[(0,.agg (Dr c))]).run prog u= .ok (.slice (some ⟨u.heap.size,0,none⟩) 1 1) (u.alloc (.cells (Dr c) 177)):=by kernel_rfl
 unfold Oper.wp execOp;have hm:(#[(0,x)].map fun(i,x)=>(i,a.eval x))= #[(0,.agg (Dr c))]:=by simp[hx]
 simp only[ho,hm,jV,hr,jU,mK];exact R
theorem o6{o:Oper}{a:Act}{Q:Exit→Act→World→Prop}(u:World)(hgd:o.guard=none)(s x:Operand)(ho:o.op= .call {callee:=.builtin .append,args:=#[s,x],argTypes:=#[172,172]})(base:Nat)(v:Value)(r:bY)(c:DC)(hs:a.eval s=v)(own:gL u base v r)(hx:a.eval x= .slice (some ⟨u.heap.size,0,none⟩) 1 1)(hn:r.length≤1000000)(hb:base≤u.heap.size)(h:∀v' w',gL w' base v' (r++[c])→u.grownBy w' v.ownBlock→wpList prog ops Q rest (a.put o.dst v') w'):
 wpList prog ops Q (o::rest) a (u.alloc (.cells (Dr c) 177)):=by
 obtain⟨i0,hi,hz0,hz1,hz2⟩:=info_parts acj;refine jI _ hgd s x 172 ho base 177 i0 (.agg (Dr Mr)) 8 48 underlying172 hi hz0 hz1 hz2 (by rfl) v _ _ hs (xS own _) ⟨u.heap.size,0,none⟩ 1 1 (tF c) hx (vL c) (vK _ _ _) (tJ c) (by omega) ?_ ?_ ?_ ?_
 ·unfold maxLen;omega
 ·omega
 ·simp;omega
 ·intro v' w' hown hgrow hblk hkeep;refine h v' w' ?_ ⟨hgrow.os,hgrow.tape,hgrow.output,iD (by simp) hgrow.size,fun k hk hn=>(hgrow.block k (by simp;omega) hn).trans (gK u _ _ hk)⟩;unfold gL;rw[fU,EP];have e:pz [c]=tF c:=by simp[pz]
  rw[e];exact hown
theorem ji{v:Value}(b0:Below B w0 u)(hB:B≤u.heap.size)(own:gL u B v r)(g:u.grownBy w' v.ownBlock):Below B w0 w':=by
 refine b0.trans ⟨g.os,g.tape,g.output,g.size,fun k hk=>g.block k (by omega) ?_⟩;rcases own.2 with⟨rfl,_⟩|⟨b,cap,cur,rfl,hb,_⟩
 ·intro e;cases e
 ·intro e;have e':k=b:=by simpa[Value.ownBlock]using e
  omega


def Xq (w:World) (ao:Option Addr) (T:List ByteArray):Prop:=∀j t,T[j]? =some t→∃b o,ao=some ⟨b,o,none⟩∧b<w.heap.size∧w.cell? ⟨b,o+j,none⟩=some (.string t)
theorem Xq.below{ao:Option Addr}{T:List ByteArray}(h:Xq w ao T)(b:Below w.heap.size w w'):Xq w' ao T:=fun j t hj=>by obtain⟨x,o,h1,h2,h3⟩:=h j t hj;exact⟨x,o,h1,fJ h2 b.size,(dA (b.block x h2)).trans h3⟩
structure OV (B:Nat) (w:World) (fb:Nat) (L:Lay) (rows ah:Nat) (l:List Int):Prop where
 f:Cm w fb L ((akA.fresh rows ah).feed l)
 fb:B≤fb
 own:∀k,L.own k→B≤k
theorem OV.feed{fb:Nat}{L:Lay}{rows:Nat}{l:List Int}{t:List Int}(h:OV B w fb L rows ah l)(hB:B≤w.heap.size)(b0:Below B w0 w){v:Value}{cs:List Int}{L':Lay}(n:FI w fb L v cs (((akA.fresh rows ah).feed l).feed t) w' L'):OV B w' fb L' rows ah (l++t)∧Below B w0 w':=by
 refine⟨⟨by rw[GJ];exact n.f,h.fb,fun k hk=>?_⟩,b0.trans (n.ch.below hB (fun k hk e=>?_))⟩
 ·rcases n.gr k hk with q|q
  ·exact h.own k q
  ·omega
 ·rcases e with e|e
  ·have:=h.fb;omega
  ·have:=h.own k e;omega
theorem acI(d:Nat)(p:di)(w:World):(Op.equalIn (d+3) 82 (.agg (aB p).toArray) (.agg (aB p).toArray)).run prog w= .ok true w:=by
 have hu:prog.underlying 82=some (.struct (prog.fieldsOf 82)):=by kernel_rfl
 have hp:prog.stoodInHeld 82=false:=by kernel_rfl
 rw[run_equalIn_struct w (d+2) 82 _ _ hu hp];rw[vN (d+2) _ _ w _ [(3,0,true),(3,1,true),(4,2,true),(80,3,true),(3,8,true),(3,9,true),(3,10,true),(4,11,true)] (pV (by kernel_rfl)) (by kernel_rfl) ?_]
 ·rfl
 ·have hI:∀x:Int,(Op.equalIn (d+2) 3 (.int .i64 x) (.int .i64 x)).run prog w= .ok true w:=fun x=>by rw[UI (d+1)];simp
  have hB:∀x:Bool,(Op.equalIn (d+2) 4 (.bool x) (.bool x)).run prog w= .ok true w:=fun x=>by rw[eqB (d+1)];simp
  intro x hx;simp only[kK,pX,pY]at hx;rcases hx with rfl|rfl|rfl|rfl|rfl|rfl|rfl|rfl
  ·exact⟨_,_,oF _ 0 p.row rfl w,oF _ 0 p.row rfl w,hI _⟩
  ·exact⟨_,_,oF _ 1 p.col rfl w,oF _ 1 p.col rfl w,hI _⟩
  ·exact⟨_,_,wY _ 2 p.waits rfl w,wY _ 2 p.waits rfl w,hB _⟩
  ·refine⟨_,_,Fa _ 3 w,Fa _ 3 w,?_⟩;have:=eqP d p.pen p.pen w;rw[iP rfl]at this;exact this
  ·exact⟨_,_,oF _ 8 p.first rfl w,oF _ 8 p.first rfl w,hI _⟩
  ·exact⟨_,_,oF _ 9 p.second rfl w,oF _ 9 p.second rfl w,hI _⟩
  ·exact⟨_,_,oF _ 10 p.use rfl w,oF _ 10 p.use rfl w,hI _⟩
  ·exact⟨_,_,wY _ 11 p.origin rfl w,wY _ 11 p.origin rfl w,hB _⟩
theorem acf(s:TS)(w:World):(Op.equalIn 10000 84 (.agg (xM s).toArray) (.agg (xM s).toArray)).run prog w= .ok true w:=by
 have hu:prog.underlying 84=some (.struct (prog.fieldsOf 84)):=by kernel_rfl
 have hp:prog.stoodInHeld 84=false:=by kernel_rfl
 rw[run_equalIn_struct w 9999 84 _ _ hu hp];rw[vN 9999 _ _ w _ [(82,0,true),(3,12,true),(3,13,true),(4,14,true),(4,15,true),(3,16,true)] (pV (by kernel_rfl)) (by kernel_rfl) ?_]
 ·rfl
 ·have hI:∀x:Int,(Op.equalIn 9999 3 (.int .i64 x) (.int .i64 x)).run prog w= .ok true w:=fun x=>by rw[UI 9998];simp
  have hB:∀x:Bool,(Op.equalIn 9999 4 (.bool x) (.bool x)).run prog w= .ok true w:=fun x=>by rw[eqB 9998];simp
  intro x hx;simp only[kK,pX,pY]at hx;rcases hx with rfl|rfl|rfl|rfl|rfl|rfl
  ·refine⟨_,_,aaR _ 0 w,aaR _ 0 w,?_⟩;exact acI 9996 s.spot w
  ·exact⟨_,_,oF _ 12 s.top rfl w,oF _ 12 s.top rfl w,hI _⟩
  ·exact⟨_,_,oF _ 13 s.bottom rfl w,oF _ 13 s.bottom rfl w,hI _⟩
  ·exact⟨_,_,wY _ 14 s.wrap rfl w,wY _ 14 s.wrap rfl w,hB _⟩
  ·exact⟨_,_,wY _ 15 s.insert rfl w,wY _ 15 s.insert rfl w,hB _⟩
  ·exact⟨_,_,oF _ 16 s.shown rfl w,oF _ 16 s.shown rfl w,hI _⟩
theorem JR(ty:TypeId)(hty:ty=101∨ty=82∨ty=84)(op:BinOp)(x y:Operand)(xs ys:Array Value)(w:World):(eqGuard op ty x y (.agg xs) (.agg ys)).run prog w= .ok () w:=by
 rcases hty with rfl|rfl|rfl
 ·exact run_eqGuard_agg w op 101 x y xs ys (by kernel_rfl)
 ·exact run_eqGuard_agg w op 82 x y xs ys (by kernel_rfl)
 ·exact run_eqGuard_agg w op 84 x y xs ys (by kernel_rfl)
theorem BX{u':World}{g:Nat}(h:Sm w u)(k:Ch (· =g) u u')(hg:w.heap.size≤g):Sm w u':=h.trans' k (fun i hi e=>by omega)
end Go.Proofs.YtheibfffilomcaaGreatDoor
