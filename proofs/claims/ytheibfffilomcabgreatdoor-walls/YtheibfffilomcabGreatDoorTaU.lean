import Derived.Test.YtheibfffilomcabGreatDoorR4U
import Derived.Test.YtheibfffilomcabGreatDoorCeU
import Derived.Laws.MakeOwn
set_option linter.all false
set_option maxRecDepth 100000
set_option maxHeartbeats 1000000
namespace Go.Proofs.YtheibfffilomcabGreatDoor
open Go.RowKit Go.Proofs.Tryz
variable {w:World} {aa g i:Nat}
theorem Ma(w:World)(dT sT ty elem:TypeId)(b o dLen dCap:Nat)(a:Addr)(sLen sCap m:Nat)(cs:List Value)(hu:prog.underlying dT=some (.slice elem))(hs:(prog.info? elem).map (·.size)=some m)(hn:cs.length=Nat.min sLen dLen*m)(hsrc:∀j v,cs[j]? =some v→w.cell? (a.add j)=some v)(hc:∀j,j<cs.length→(w.cell? ⟨b,o+j,none⟩).isSome=true)(hf:∀j,j<cs.length→w.frozen? ⟨b,o+j,none⟩=false)(h1:∀v∈cs,v.oneCell'=true):
 (Builtin.copy_ #[dT,sT] ty #[.slice (some ⟨b,o,none⟩) dLen dCap,.slice (some a) sLen sCap]).run prog w= .ok (goInt (Nat.min sLen dLen)) (w.setCells b o cs):=by
 have hl:=run_loadCells_list (P:=prog) w a cs hsrc;have hst:=run_storeCells_cells (P:=prog) b o cs 0 w (by simpa using hc) (by simpa using hf) h1;cases hq:prog.info? elem with
 |none=>simp[hq]at hs
 |some i=>
  have hi:i.size=m:=by simpa[hq]using hs
  simp[Builtin.copy_,run_underlying hu,Builtin.lenOf,Builtin.firstCells,sizeOf,typeInfo,hq,hi, ←hn,hl,hst]
theorem L_(w:World)(dT sT ty elem:TypeId)(d a:Option Addr)(dLen dCap sLen sCap m:Nat)(hu:prog.underlying dT=some (.slice elem))(hs:(prog.info? elem).map (·.size)=some m)(hn:Nat.min sLen dLen=0):
 (Builtin.copy_ #[dT,sT] ty #[.slice d dLen dCap,.slice a sLen sCap]).run prog w= .ok (goInt 0) w:=by
 cases hq:prog.info? elem with
 |none=>simp[hq]at hs
 |some i=>
  have hl:∀(x:Addr),(loadCells x 0).run prog w= .ok #[] w:=fun x=>by simpa using run_loadCells_list (P:=prog) w x [] (by simp)
  cases d<;>cases a<;>simp[Builtin.copy_,run_underlying hu,Builtin.lenOf,Builtin.firstCells,sizeOf,typeInfo,hq,hn,storeCells,hl]
theorem kY{o:Oper}{l:List Value}{ds:List Deferred}{u:World}{K:Act→World→Prop}{Q:Exit→Act→World→Prop}(d:Nat)(x y:Operand)(ho:o.op= .call {callee:=.builtin .copy,args:=#[x,y],argTypes:=#[186,186]})(hd:o.dst=some d)(dp sp:Option Addr)(dn dc sn sc:Nat)(hx:Act.eval ⟨l.toArray,ds⟩ x= .slice dp dn dc)(hy:Act.eval ⟨l.toArray,ds⟩ y= .slice sp sn sc)(g g2 da sa k:Nat)(r r2:List aC)(hr:aK u g r)(hr2:aK u g2 r2)(hk:k=min sn dn)(hd1:da+k≤r.length)(hs1:sa+k≤r2.length)(hp:0<k→dp=some ⟨g,da*7,none⟩∧sp=some ⟨g2,sa*7,none⟩)(h:∀u',aK u' g (gY r da ((r2.drop sa).take k))→Ch (· =g) u u'→K ⟨(l.set d (goInt k)).toArray,ds⟩ u'):Oper.wp prog o ⟨l.toArray,ds⟩ u K Q:=by
 have UW:((r2.drop sa).take k).length=k:=by rw[jJ,wR];omega
 by_cases h0:k=0
 ·have hrun:=L_ u 186 186 o.type 104 dp sp dn dc sn sc 7 underlying186 eF (show min sn dn=0 by omega);have R:=h u (by subst h0;simpa[gY]using hr) (Ch.refl _ _);subst h0;unfold Oper.wp;simp[execOp,ho,resolve,invoke,builtin,hx,hy,hrun,Result.andThen,Oper.upon_value,Act.put,hd];simpa using R
 ·obtain⟨rfl,rfl⟩:=hp (by omega);have hadd:∀j,(⟨g2,sa*7,none⟩:Addr).add j=⟨g2,sa*7+j,none⟩:=fun j=>by unfold Addr.add;split<;>simp_all
  have hrun:=Ma u 186 186 o.type 104 g (da*7) dn dc ⟨g2,sa*7,none⟩ sn sc 7 (iw ((r2.drop sa).take k)) underlying186 eF (by rw[bP,UW,hk])
   (fun j v hv=>by
     have hj:j<k*7:=by have:=(ja.1 hv).1;rw[bP,UW]at this;exact this
     rw[←vS, ←rT,qA,aS hj,qC]at hv
     rw[hadd,hr2.cell];exact hv)
   (fun j hj=>by rw[bP,UW]at hj;rw[hr.cell,gK (by rw[bP];omega)];rfl)
   (fun j _=>ou _ _ _ _ _ hr) (Fq _)
  have hz:=size_setCells g (iw ((r2.drop sa).take k)) (da*7) u;have R:=h _ (Kk hr da ((r2.drop sa).take k) (by rw[UW];exact hd1)) ⟨hz.2.1,hz.2.2.1,hz.2.2.2,by omega,fun i _ hn=>fV g _ _ _ i hn⟩;rw[show Nat.min sn dn=k from hk.symm]at hrun;unfold Oper.wp;simp[execOp,ho,resolve,invoke,builtin,hx,hy,hrun,Result.andThen,Oper.upon_value,Act.put,hd];simpa using R
theorem yX(g a n len:Nat)(r:List aC)(w:World)(hr:aK w g r)(hlen:r.length=len)(ha:a<len)(hn:n≤70000)(hl:len≤100):
 Calls prog 124 #[.slice (some ⟨g,0,none⟩) len len,.int .i64 (a:Int),.int .i64 (n:Int)] w fun e w'=>e= .returned (.tuple #[])∧aK w' g (fQ r a n)∧Ch (· =g) w w':=by
 by_cases hm:n<len-a
 ·have hi:fQ r a n=uF r a n:=by rw[fQ,yl (by omega)]
  have hcopy:uF r a n=gQ (gY (ay (ay r a) (len-n)) (a+n) (((ay (ay r a) (len-n)).drop a).take (len-(a+n)))) a n:=by rw[uF,hlen]
  rw[hi,hcopy];have hq:(ay (ay r a) (len-n)).length=len:=by rw[ax,ax,hlen]
  have s1:=dX g a len r w hr (by omega);have s2:∀u,aK u g (ay r a)→_:=fun u hu=>dX g (len-n) len (ay r a) u hu (by omega);rw[ax,hlen]at s2;rw[hlen]at s1;generalize ay (ay r a) (len-n)=q at*;have EC:(gY q (a+n) ((q.drop a).take (len-(a+n)))).length=len:=by rw[gP _ _ _ (by simp;omega),hq]
  have HQ:Hid _:=hq;have HL:Hid _:=EC;have e1:(len:Int)-(a:Int)=((len-a:Nat):Int):=by omega
  have v1:IntKind.i64.wrap ((len-a:Nat):Int)=((len-a:Nat):Int):=bV _ (by omega);have e2:(len:Int)-(n:Int)=((len-n:Nat):Int):=by omega
  have v2:IntKind.i64.wrap ((len-n:Nat):Int)=((len-n:Nat):Int):=bV _ (by omega);have v3:IntKind.i64.wrap ((a:Int)+(n:Int))=(a:Int)+(n:Int):=bV _ (by omega);have i1:(n:Int)<((len-a:Nat):Int):=by omega
  have i3:a+n<len:=by omega
  have i4:a<len:=ha;have i5:len≠a:=by omega
  have i6:len≠a+n:=by omega
  have t1:((a:Int)+(n:Int)).toNat=a+n:=by omega
  have j1:(0:Int)≤(a:Int)+(n:Int):=by omega
  have j2:(a:Int)+(n:Int)≤(len:Int):=by omega
  clear hi hcopy hq EC hr;go_enter func124,ntmps124;go_wp2_with (first|(go_at_call 166;refine(s2 _ h1).mono ?_;rintro e w2 ⟨rfl,h2,c2⟩)|(go_at_call 166;refine s1.mono ?_;rintro e w1 ⟨rfl,h1,c1⟩));have HR:Hid (aK w2 g q):=h2;have HC:Hid (Ch (· =g) w w2):=c1.trans c2;clear h1 h2 c1 c2 s1 s2;have HS:aK ({w2 with drawn:=w2.drawn+1}:World) g q:=HR.o;refine fJ (S:=fun x=>aK x g q∨aK x g (gY q (a+n) ((q.drop a).take (len-(a+n))))) bI ?_;refine ak 0 (Or.inl HS) ?_ (v:=.slice (some ⟨g,0,none⟩) len len);refine ak 1 (Or.inl HS) ?_ (v:=.int .i64 (a:Int));refine ak 2 (Or.inl HS) ?_ (v:=.int .i64 (n:Int));refine ak 3 (Or.inl HS) ?_ (v:=.int .i64 ((a:Int)+(n:Int)));simp only[ah,ag];refine ak 4 (Or.inl HS) ?_ (v:=.slice (some ⟨g,(a+n)*7,none⟩) (len-(a+n)) (len-(a+n)));refine ak 5 (Or.inl HS) ?_ (v:=.slice (some ⟨g,0,none⟩) len len);refine ak 6 (Or.inl HS) ?_ (v:=.int .i64 (a:Int));refine ak 7 (Or.inl HS) ?_ (v:=.slice (some ⟨g,a*7,none⟩) (len-a) (len-a));simp only[ah,ag];refine wpAnyH_all (rs:=[8]) (by kernel_rfl) (by simp) ?_;intro i hi;rw[iM]at hi;subst hi;refine gW ?_;refine kY 29 (.tmp 25) (.tmp 28) rfl rfl _ _ _ _ _ _ rfl rfl g g (a+n) a (len-(a+n)) q q HS HS (by omega) (by rw[HQ.o];omega) (by rw[HQ.o];omega) (fun _=>⟨rfl,rfl⟩) ?_;intro u3 h3 c3;refine⟨Or.inr h3,?_⟩;clear HS HR;simp only[ah,ag];have HR3:Hid (aK u3 g (gY q (a+n) ((q.drop a).take (len-(a+n))))):=h3;have xJ:Hid (Ch (· =g) w u3):=HC.o.trans ((Ch.refl (· =g) w2).trans ⟨c3.os,c3.tape,c3.output,c3.size,c3.block⟩);clear h3 c3 HC;refine aM ?_;go_wp2_with (go_at_call 160;refine(jT g (a*7) a (n) _ _ _ rfl HR3.o (by rw[HL.o];omega) (by rw[HL.o];omega)).mono ?_;rintro e w4 ⟨rfl,h4,c4⟩);go_end0;exact⟨rfl,h4,xJ.o.trans c4⟩
 ·obtain⟨m,hm2⟩:∃m,len=a+m:=⟨len-a,by omega⟩;rcases(show m<n∨m=n by omega)with hmn|hmn
  ·have k1:¬n≤m:=by omega
   have k3:¬(n:Int)≤(m:Int):=by omega
   have hi:fQ r a n=uF r a m:=by rw[fQ,hlen,ym (by omega),hm2,Nat.add_sub_cancel_left]
   have hcopy:uF r a m=gQ (gY (ay (ay r a) a) (a+m) (((ay (ay r a) a).drop a).take (len-(a+m)))) a m:=by rw[uF,hlen,show len-m=a by omega]
   rw[hi,hcopy];have hq:(ay (ay r a) a).length=len:=by rw[ax,ax,hlen]
   have s1:=dX g a len r w hr (by omega);have s2:∀u,aK u g (ay r a)→_:=fun u hu=>dX g a len (ay r a) u hu (by omega);rw[ax,hlen]at s2;rw[hlen]at s1;generalize ay (ay r a) a=q at*;have EC:(gY q (a+m) ((q.drop a).take (len-(a+m)))).length=len:=by rw[gP _ _ _ (by simp;omega),hq]
   have HQ:Hid _:=hq;have HL:Hid _:=EC;have e1:(len:Int)-(a:Int)=(m:Int):=by omega
   have v1:IntKind.i64.wrap (m:Int)=(m:Int):=bV _ (by omega);have e2:(len:Int)-(m:Int)=(a:Int):=by omega
   have v2:IntKind.i64.wrap (a:Int)=(a:Int):=bV _ (by omega);have v3:IntKind.i64.wrap (len:Int)=(len:Int):=bV _ (by omega);have i1:(m:Int)≤(n:Int):=by omega
   have i4:a<len:=ha;have i5:len≠a:=by omega
   have i6:(a:Int)+(m:Int)=(len:Int):=by omega
   have e3:len-a=m:=by omega
   have HM:Hid _:=hm2;clear hm2;clear hi hcopy hq EC hr;go_enter func124,ntmps124;go_wp2_with (first|(go_at_call 166;refine(s2 _ h1).mono ?_;rintro e w2 ⟨rfl,h2,c2⟩)|(go_at_call 166;refine s1.mono ?_;rintro e w1 ⟨rfl,h1,c1⟩));have HR:Hid (aK w2 g q):=h2;have HC:Hid (Ch (· =g) w w2):=c1.trans c2;clear h1 h2 c1 c2 s1 s2;have HS:aK ({w2 with drawn:=w2.drawn+1}:World) g q:=HR.o;refine fJ (S:=fun x=>aK x g q∨aK x g (gY q (a+m) ((q.drop a).take (len-(a+m))))) bI ?_;refine ak 0 (Or.inl HS) ?_ (v:=.slice (some ⟨g,0,none⟩) len len);refine ak 1 (Or.inl HS) ?_ (v:=.int .i64 (a:Int));refine ak 2 (Or.inl HS) ?_ (v:=.int .i64 (m:Int));refine ak 3 (Or.inl HS) ?_ (v:=.int .i64 (len:Int));simp only[ah,ag];refine ak 4 (Or.inl HS) ?_ (v:=.slice (some ⟨g,0,none⟩) 0 0);refine ak 5 (Or.inl HS) ?_ (v:=.slice (some ⟨g,0,none⟩) len len);refine ak 6 (Or.inl HS) ?_ (v:=.int .i64 (a:Int));refine ak 7 (Or.inl HS) ?_ (v:=.slice (some ⟨g,a*7,none⟩) m m);simp only[ah,ag];refine wpAnyH_all (rs:=[8]) (by kernel_rfl) (by simp) ?_;intro i hi;rw[iM]at hi;subst hi;refine gW ?_;have hm2:len=a+m:=HM.o;refine kY 29 (.tmp 25) (.tmp 28) rfl rfl _ _ _ _ _ _ rfl rfl g g (a+m) a (len-(a+m)) q q HS HS (by omega) (by rw[HQ.o];omega) (by rw[HQ.o];omega) (fun h=>by omega) ?_;intro u3 h3 c3;refine⟨Or.inr h3,?_⟩;clear HS HR hm2;simp only[ah,ag];have HR3:Hid (aK u3 g (gY q (a+m) ((q.drop a).take (len-(a+m))))):=h3;have xJ:Hid (Ch (· =g) w u3):=HC.o.trans ((Ch.refl (· =g) w2).trans ⟨c3.os,c3.tape,c3.output,c3.size,c3.block⟩);clear h3 c3 HC;refine aM ?_;go_wp2_with (go_at_call 160;refine(jT g (a*7) a m _ _ _ rfl HR3.o (by rw[HL.o];exact Nat.le_of_eq HM.o.symm) (by rw[HL.o];omega)).mono ?_;rintro e w4 ⟨rfl,h4,c4⟩);go_end0;exact⟨rfl,h4,xJ.o.trans c4⟩
  ·subst hmn;have hi:fQ r a m=uF r a m:=by rw[fQ,hlen,ym (by omega),hm2,Nat.add_sub_cancel_left]
   have hcopy:uF r a m=gQ (gY (ay (ay r a) a) (a+m) (((ay (ay r a) a).drop a).take (len-(a+m)))) a m:=by rw[uF,hlen,show len-m=a by omega]
   rw[hi,hcopy];have hq:(ay (ay r a) a).length=len:=by rw[ax,ax,hlen]
   have s1:=dX g a len r w hr (by omega);have s2:∀u,aK u g (ay r a)→_:=fun u hu=>dX g a len (ay r a) u hu (by omega);rw[ax,hlen]at s2;rw[hlen]at s1;generalize ay (ay r a) a=q at*;have EC:(gY q (a+m) ((q.drop a).take (len-(a+m)))).length=len:=by rw[gP _ _ _ (by simp;omega),hq]
   have HQ:Hid _:=hq;have HL:Hid _:=EC;have e1:(len:Int)-(a:Int)=(m:Int):=by omega
   have v1:IntKind.i64.wrap (m:Int)=(m:Int):=bV _ (by omega);have e2:(len:Int)-(m:Int)=(a:Int):=by omega
   have v2:IntKind.i64.wrap (a:Int)=(a:Int):=bV _ (by omega);have v3:IntKind.i64.wrap (len:Int)=(len:Int):=bV _ (by omega);have i4:a<len:=ha;have i5:len≠a:=by omega
   have i6:(a:Int)+(m:Int)=(len:Int):=by omega
   have e3:len-a=m:=by omega
   have HM:Hid _:=hm2;clear hm2;clear hi hcopy hq EC hr;go_enter func124,ntmps124;go_wp2_with (first|(go_at_call 166;refine(s2 _ h1).mono ?_;rintro e w2 ⟨rfl,h2,c2⟩)|(go_at_call 166;refine s1.mono ?_;rintro e w1 ⟨rfl,h1,c1⟩));have HR:Hid (aK w2 g q):=h2;have HC:Hid (Ch (· =g) w w2):=c1.trans c2;clear h1 h2 c1 c2 s1 s2;have HS:aK ({w2 with drawn:=w2.drawn+1}:World) g q:=HR.o;refine fJ (S:=fun x=>aK x g q∨aK x g (gY q (a+m) ((q.drop a).take (len-(a+m))))) bI ?_;refine ak 0 (Or.inl HS) ?_ (v:=.slice (some ⟨g,0,none⟩) len len);refine ak 1 (Or.inl HS) ?_ (v:=.int .i64 (a:Int));refine ak 2 (Or.inl HS) ?_ (v:=.int .i64 (m:Int));refine ak 3 (Or.inl HS) ?_ (v:=.int .i64 (len:Int));simp only[ah,ag];refine ak 4 (Or.inl HS) ?_ (v:=.slice (some ⟨g,0,none⟩) 0 0);refine ak 5 (Or.inl HS) ?_ (v:=.slice (some ⟨g,0,none⟩) len len);refine ak 6 (Or.inl HS) ?_ (v:=.int .i64 (a:Int));refine ak 7 (Or.inl HS) ?_ (v:=.slice (some ⟨g,a*7,none⟩) m m);simp only[ah,ag];refine wpAnyH_all (rs:=[8]) (by kernel_rfl) (by simp) ?_;intro i hi;rw[iM]at hi;subst hi;refine gW ?_;have hm2:len=a+m:=HM.o;refine kY 29 (.tmp 25) (.tmp 28) rfl rfl _ _ _ _ _ _ rfl rfl g g (a+m) a (len-(a+m)) q q HS HS (by omega) (by rw[HQ.o];omega) (by rw[HQ.o];omega) (fun h=>by omega) ?_;intro u3 h3 c3;refine⟨Or.inr h3,?_⟩;clear HS HR hm2;simp only[ah,ag];have HR3:Hid (aK u3 g (gY q (a+m) ((q.drop a).take (len-(a+m))))):=h3;have xJ:Hid (Ch (· =g) w u3):=HC.o.trans ((Ch.refl (· =g) w2).trans ⟨c3.os,c3.tape,c3.output,c3.size,c3.block⟩);clear h3 c3 HC;refine aM ?_;go_wp2_with (go_at_call 160;refine(jT g (a*7) a m _ _ _ rfl HR3.o (by rw[HL.o];exact Nat.le_of_eq HM.o.symm) (by rw[HL.o];omega)).mono ?_;rintro e w4 ⟨rfl,h4,c4⟩);go_end0;exact⟨rfl,h4,xJ.o.trans c4⟩
theorem Il(g a n len:Nat)(r:List aC)(w:World)(hr:aK w g r)(hlen:r.length=len)(ha:a<len)(hn:n≤70000)(hn1:1≤n)(hl:len≤100):
 Calls prog 184 #[.slice (some ⟨g,0,none⟩) len len,.int .i64 (a:Int),.int .i64 (n:Int)] w fun e w'=>e= .returned (.tuple #[])∧aK w' g (iI r a n)∧Ch (· =g) w w':=by
 by_cases hm:n<len-a
 ·have hi:iI r a n=uQ r a n:=by rw[iI,yl (by omega)]
  have hcopy:uQ r a n=gQ (gY (ay (ay r a) (a+n)) a (((ay (ay r a) (a+n)).drop (a+n)).take (len-(a+n)))) (len-n) n:=by have hd:(((ay (ay r a) (a+n)).drop (a+n)).take (len-(a+n)))=(ay (ay r a) (a+n)).drop (a+n):=sG (by rw[wR,ax,ax,hlen];omega);rw[uQ,hlen,hd]
  rw[hi,hcopy];have hq:(ay (ay r a) (a+n)).length=len:=by rw[ax,ax,hlen]
  have s1:=dX g a len r w hr (by omega);have s2:∀u,aK u g (ay r a)→_:=fun u hu=>dX g (a+n) len (ay r a) u hu (by omega);rw[ax,hlen]at s2;rw[hlen]at s1;generalize ay (ay r a) (a+n)=q at*;have EC:(gY q a ((q.drop (a+n)).take (len-(a+n)))).length=len:=by rw[gP _ _ _ (by simp;omega),hq]
  have HQ:Hid _:=hq;have HL:Hid _:=EC;have e1:(len:Int)-(a:Int)=((len-a:Nat):Int):=by omega
  have v1:IntKind.i64.wrap ((len-a:Nat):Int)=((len-a:Nat):Int):=bV _ (by omega);have e2:(len:Int)-(n:Int)=((len-n:Nat):Int):=by omega
  have v2:IntKind.i64.wrap ((len-n:Nat):Int)=((len-n:Nat):Int):=bV _ (by omega);have v3:IntKind.i64.wrap ((a:Int)+(n:Int))=(a:Int)+(n:Int):=bV _ (by omega);have i1:(n:Int)<((len-a:Nat):Int):=by omega
  have i3:a+n<len:=by omega
  have i4:a<len:=ha;have i5:len≠a:=by omega
  have i6:len≠a+n:=by omega
  have i7:len≠len-n:=by omega
  have i8:len-(len-n)=n:=by omega
  have t1:((a:Int)+(n:Int)).toNat=a+n:=by omega
  have j1:(0:Int)≤(a:Int)+(n:Int):=by omega
  have j2:(a:Int)+(n:Int)≤(len:Int):=by omega
  clear hi hcopy hq EC hr;go_enter func184,ntmps184;go_wp2_with (first|(go_at_call 166;refine(s2 _ h1).mono ?_;rintro e w2 ⟨rfl,h2,c2⟩)|(go_at_call 166;refine s1.mono ?_;rintro e w1 ⟨rfl,h1,c1⟩));have HR:Hid (aK w2 g q):=h2;have HC:Hid (Ch (· =g) w w2):=c1.trans c2;clear h1 h2 c1 c2 s1 s2;have HS:aK ({w2 with drawn:=w2.drawn+1}:World) g q:=HR.o;refine fJ (S:=fun x=>aK x g q∨aK x g (gY q a ((q.drop (a+n)).take (len-(a+n))))) bI ?_;refine ak 0 (Or.inl HS) ?_ (v:=.slice (some ⟨g,0,none⟩) len len);refine ak 1 (Or.inl HS) ?_ (v:=.int .i64 (a:Int));refine ak 2 (Or.inl HS) ?_ (v:=.slice (some ⟨g,a*7,none⟩) (len-a) (len-a));refine ak 3 (Or.inl HS) ?_ (v:=.slice (some ⟨g,0,none⟩) len len);simp only[ah,ag];refine ak 4 (Or.inl HS) ?_ (v:=.int .i64 (a:Int));refine ak 5 (Or.inl HS) ?_ (v:=.int .i64 (n:Int));refine ak 6 (Or.inl HS) ?_ (v:=.int .i64 ((a:Int)+(n:Int)));refine ak 7 (Or.inl HS) ?_ (v:=.slice (some ⟨g,(a+n)*7,none⟩) (len-(a+n)) (len-(a+n)));simp only[ah,ag];refine wpAnyH_all (rs:=[8]) (by kernel_rfl) (by simp) ?_;intro i hi;rw[iM]at hi;subst hi;refine gW ?_;refine kY 28 (.tmp 22) (.tmp 27) rfl rfl _ _ _ _ _ _ rfl rfl g g a (a+n) (len-(a+n)) q q HS HS (by omega) (by rw[HQ.o];omega) (by rw[HQ.o];omega) (fun _=>⟨rfl,rfl⟩) ?_;intro u3 h3 c3;refine⟨Or.inr h3,?_⟩;clear HS HR;simp only[ah,ag];have HR3:Hid (aK u3 g (gY q a ((q.drop (a+n)).take (len-(a+n))))):=h3;have xJ:Hid (Ch (· =g) w u3):=HC.o.trans ((Ch.refl (· =g) w2).trans ⟨c3.os,c3.tape,c3.output,c3.size,c3.block⟩);clear h3 c3 HC;refine aM ?_;go_wp2_with (go_at_call 160;refine(jT g ((len-n)*7) (len-n) n _ _ _ rfl HR3.o (by rw[HL.o];omega) (by rw[HL.o];omega)).mono ?_;rintro e w4 ⟨rfl,h4,c4⟩);go_end0;exact⟨rfl,h4,xJ.o.trans c4⟩
 ·obtain⟨m,hm2⟩:∃m,len=a+m:=⟨len-a,by omega⟩;rcases(show m<n∨m=n by omega)with hmn|hmn
  ·have k1:¬n≤m:=by omega
   have k3:¬(n:Int)≤(m:Int):=by omega
   have hi:iI r a n=uQ r a m:=by rw[iI,hlen,ym (by omega),hm2,Nat.add_sub_cancel_left]
   have hcopy:uQ r a m=gQ (gY (ay (ay r a) len) a (((ay (ay r a) len).drop len).take (len-len))) a m:=by have hd:(((ay (ay r a) len).drop len).take (len-len))=(ay (ay r a) len).drop len:=sG (by rw[wR,ax,ax,hlen];omega);rw[uQ,hlen,show a+m=len by omega,show len-m=a by omega,hd]
   rw[hi,hcopy];have hq:(ay (ay r a) len).length=len:=by rw[ax,ax,hlen]
   have s1:=dX g a len r w hr (by omega);have s2:∀u,aK u g (ay r a)→_:=fun u hu=>dX g len len (ay r a) u hu (by omega);rw[ax,hlen]at s2;rw[hlen]at s1;generalize ay (ay r a) len=q at*;have EC:(gY q a ((q.drop len).take (len-len))).length=len:=by rw[gP _ _ _ (by simp;omega),hq]
   have HQ:Hid _:=hq;have HL:Hid _:=EC;have e1:(len:Int)-(a:Int)=(m:Int):=by omega
   have v1:IntKind.i64.wrap (m:Int)=(m:Int):=bV _ (by omega);have e2:(len:Int)-(m:Int)=(a:Int):=by omega
   have v2:IntKind.i64.wrap (a:Int)=(a:Int):=bV _ (by omega);have v3:IntKind.i64.wrap (len:Int)=(len:Int):=bV _ (by omega);have i4:a<len:=ha;have i5:len≠a:=by omega
   have i6:(a:Int)+(m:Int)=(len:Int):=by omega
   have e3:len-a=m:=by omega
   have HM:Hid _:=hm2;clear hm2;clear hi hcopy hq EC hr;go_enter func184,ntmps184;go_wp2_with (first|(go_at_call 166;refine(s2 _ h1).mono ?_;rintro e w2 ⟨rfl,h2,c2⟩)|(go_at_call 166;refine s1.mono ?_;rintro e w1 ⟨rfl,h1,c1⟩));have HR:Hid (aK w2 g q):=h2;have HC:Hid (Ch (· =g) w w2):=c1.trans c2;clear h1 h2 c1 c2 s1 s2;have HS:aK ({w2 with drawn:=w2.drawn+1}:World) g q:=HR.o;refine fJ (S:=fun x=>aK x g q∨aK x g (gY q a ((q.drop len).take (len-len)))) bI ?_;refine ak 0 (Or.inl HS) ?_ (v:=.slice (some ⟨g,0,none⟩) len len);refine ak 1 (Or.inl HS) ?_ (v:=.int .i64 (a:Int));refine ak 2 (Or.inl HS) ?_ (v:=.slice (some ⟨g,a*7,none⟩) m m);refine ak 3 (Or.inl HS) ?_ (v:=.slice (some ⟨g,0,none⟩) len len);simp only[ah,ag];refine ak 4 (Or.inl HS) ?_ (v:=.int .i64 (a:Int));refine ak 5 (Or.inl HS) ?_ (v:=.int .i64 (m:Int));refine ak 6 (Or.inl HS) ?_ (v:=.int .i64 (len:Int));refine ak 7 (Or.inl HS) ?_ (v:=.slice (some ⟨g,0,none⟩) 0 0);simp only[ah,ag];refine wpAnyH_all (rs:=[8]) (by kernel_rfl) (by simp) ?_;intro i hi;rw[iM]at hi;subst hi;refine gW ?_;have hm2:len=a+m:=HM.o;refine kY 28 (.tmp 22) (.tmp 27) rfl rfl _ _ _ _ _ _ rfl rfl g g a len (len-len) q q HS HS (by omega) (by rw[HQ.o];omega) (by rw[HQ.o];omega) (fun h=>by omega) ?_;intro u3 h3 c3;refine⟨Or.inr h3,?_⟩;clear HS HR hm2;simp only[ah,ag];have HR3:Hid (aK u3 g (gY q a ((q.drop len).take (len-len)))):=h3;have xJ:Hid (Ch (· =g) w u3):=HC.o.trans ((Ch.refl (· =g) w2).trans ⟨c3.os,c3.tape,c3.output,c3.size,c3.block⟩);clear h3 c3 HC;refine aM ?_;go_wp2_with (go_at_call 160;refine(jT g (a*7) a m _ _ _ rfl HR3.o (by rw[HL.o];exact Nat.le_of_eq HM.o.symm) (by rw[HL.o];omega)).mono ?_;rintro e w4 ⟨rfl,h4,c4⟩);go_end0;exact⟨rfl,h4,xJ.o.trans c4⟩
  ·subst hmn;have hi:iI r a m=uQ r a m:=by rw[iI,hlen,ym (by omega),hm2,Nat.add_sub_cancel_left]
   have hcopy:uQ r a m=gQ (gY (ay (ay r a) len) a (((ay (ay r a) len).drop len).take (len-len))) a m:=by have hd:(((ay (ay r a) len).drop len).take (len-len))=(ay (ay r a) len).drop len:=sG (by rw[wR,ax,ax,hlen];omega);rw[uQ,hlen,show a+m=len by omega,show len-m=a by omega,hd]
   rw[hi,hcopy];have hq:(ay (ay r a) len).length=len:=by rw[ax,ax,hlen]
   have s1:=dX g a len r w hr (by omega);have s2:∀u,aK u g (ay r a)→_:=fun u hu=>dX g len len (ay r a) u hu (by omega);rw[ax,hlen]at s2;rw[hlen]at s1;generalize ay (ay r a) len=q at*;have EC:(gY q a ((q.drop len).take (len-len))).length=len:=by rw[gP _ _ _ (by simp;omega),hq]
   have HQ:Hid _:=hq;have HL:Hid _:=EC;have e1:(len:Int)-(a:Int)=(m:Int):=by omega
   have v1:IntKind.i64.wrap (m:Int)=(m:Int):=bV _ (by omega);have e2:(len:Int)-(m:Int)=(a:Int):=by omega
   have v2:IntKind.i64.wrap (a:Int)=(a:Int):=bV _ (by omega);have v3:IntKind.i64.wrap (len:Int)=(len:Int):=bV _ (by omega);have i4:a<len:=ha;have i5:len≠a:=by omega
   have i6:(a:Int)+(m:Int)=(len:Int):=by omega
   have e3:len-a=m:=by omega
   have HM:Hid _:=hm2;clear hm2;clear hi hcopy hq EC hr;go_enter func184,ntmps184;go_wp2_with (first|(go_at_call 166;refine(s2 _ h1).mono ?_;rintro e w2 ⟨rfl,h2,c2⟩)|(go_at_call 166;refine s1.mono ?_;rintro e w1 ⟨rfl,h1,c1⟩));have HR:Hid (aK w2 g q):=h2;have HC:Hid (Ch (· =g) w w2):=c1.trans c2;clear h1 h2 c1 c2 s1 s2;have HS:aK ({w2 with drawn:=w2.drawn+1}:World) g q:=HR.o;refine fJ (S:=fun x=>aK x g q∨aK x g (gY q a ((q.drop len).take (len-len)))) bI ?_;refine ak 0 (Or.inl HS) ?_ (v:=.slice (some ⟨g,0,none⟩) len len);refine ak 1 (Or.inl HS) ?_ (v:=.int .i64 (a:Int));refine ak 2 (Or.inl HS) ?_ (v:=.slice (some ⟨g,a*7,none⟩) m m);refine ak 3 (Or.inl HS) ?_ (v:=.slice (some ⟨g,0,none⟩) len len);simp only[ah,ag];refine ak 4 (Or.inl HS) ?_ (v:=.int .i64 (a:Int));refine ak 5 (Or.inl HS) ?_ (v:=.int .i64 (m:Int));refine ak 6 (Or.inl HS) ?_ (v:=.int .i64 (len:Int));refine ak 7 (Or.inl HS) ?_ (v:=.slice (some ⟨g,0,none⟩) 0 0);simp only[ah,ag];refine wpAnyH_all (rs:=[8]) (by kernel_rfl) (by simp) ?_;intro i hi;rw[iM]at hi;subst hi;refine gW ?_;have hm2:len=a+m:=HM.o;refine kY 28 (.tmp 22) (.tmp 27) rfl rfl _ _ _ _ _ _ rfl rfl g g a len (len-len) q q HS HS (by omega) (by rw[HQ.o];omega) (by rw[HQ.o];omega) (fun h=>by omega) ?_;intro u3 h3 c3;refine⟨Or.inr h3,?_⟩;clear HS HR hm2;simp only[ah,ag];have HR3:Hid (aK u3 g (gY q a ((q.drop len).take (len-len)))):=h3;have xJ:Hid (Ch (· =g) w u3):=HC.o.trans ((Ch.refl (· =g) w2).trans ⟨c3.os,c3.tape,c3.output,c3.size,c3.block⟩);clear h3 c3 HC;refine aM ?_;go_wp2_with (go_at_call 160;refine(jT g (a*7) a m _ _ _ rfl HR3.o (by rw[HL.o];exact Nat.le_of_eq HM.o.symm) (by rw[HL.o];omega)).mono ?_;rintro e w4 ⟨rfl,h4,c4⟩);go_end0;exact⟨rfl,h4,xJ.o.trans c4⟩
abbrev bK:=List (List aC)
def dK (aa:Nat):List aC:=List.replicate aa aQ
def lD (S:bK) (a n:Nat):Nat→bK
 | 0=>S
 |i+1=>(lD S a n i).set (a+i) ((lD S a n i).getD (a+i+n) [])
def fC (S:bK) (a n len:Nat):Nat→bK
 | 0=>S
 |i+1=>(fC S a n len i).set (a+(len-1-i)) ((fC S a n len i).getD (a+(len-1-i)-n) [])
def bF (S:bK) (a aa:Nat):Nat→bK
 | 0=>S
 |i+1=>(bF S a aa i).set (a+i) (dK aa)
def MM (S:bK) (a len n aa:Nat):bK:=bF (lD S a n (len-min n len)) (a+(len-min n len)) aa (len-(len-min n len))
def oJ (S:bK) (a len n aa:Nat):bK:=bF (fC S a (min n len) len (len-min n len)) a aa (min n len)
theorem jg(S:bK)(a n i:Nat):(lD S a n i).length=S.length:=by induction i with|zero=>rfl|succ i ih=>rw[lD,qB,ih]
theorem ig(S:bK)(a n len i:Nat):(fC S a n len i).length=S.length:=by induction i with|zero=>rfl|succ i ih=>rw[fC,qB,ih]
theorem fG(S:bK)(a aa i:Nat):(bF S a aa i).length=S.length:=by induction i with|zero=>rfl|succ i ih=>rw[bF,qB,ih]
theorem t_(S:bK)(a len n aa:Nat):(MM S a len n aa).length=S.length:=by rw[MM,fG,jg]
theorem pK(S:bK)(a len n aa:Nat):(oJ S a len n aa).length=S.length:=by rw[oJ,fG,ig]
def Po (aa g:Nat):Value:=.slice (some ⟨g,0,none⟩) aa aa
def M4 (aa:Nat) (gs:List Nat):List Value:=gs.map (Po aa)
structure ShAt (w:World) (sb:Nat) (gs:List Nat) (aa:Nat) (S:bK):Prop where
 blk:w.heap[sb]? =some (.cells (M4 aa gs).toArray 186 (0,0))
 len:gs.length=S.length
 row:∀(i:Nat) (g:Nat) (r:List aC),gs[i]? =some g→S[i]? =some r→aK w g r∧r.length=aa
 nodup:gs.Nodup
 o:sb∉gs
theorem ShAt.lt{w:World}{sb:Nat}{gs:List Nat}{aa:Nat}{S:bK}(h:ShAt w sb gs aa S):sb<w.heap.size:=by
 by_cases hl:sb<w.heap.size
 ·exact hl
 ·have:=h.blk;rw[qh (by omega)]at this;cases this
theorem ShAt.YU{sb:Nat}{gs:List Nat}{S:bK}(h:ShAt w sb gs aa S)(hg:g∈gs):g<w.heap.size:=by obtain⟨i,hi⟩:=List.getElem?_of_mem hg;have hl:=(ja.1 hi).1;rw[h.len]at hl;exact(h.row i g _ hi (gK hl)).1.lt
theorem ShAt.kept{w w':World}{sb:Nat}{gs:List Nat}{aa:Nat}{S:bK}(h:ShAt w sb gs aa S){P:Nat→Prop}(c:Ch P w w')(h1:¬P sb)(h2:∀g∈gs,¬P g):ShAt w' sb gs aa S:=
 ⟨(c.block sb h.lt h1).trans h.blk,h.len,fun i g r hi hr=>⟨(h.row i g r hi hr).1.kept (c.block g (h.YU (fu hi)) (h2 g (fu hi))),(h.row i g r hi hr).2⟩,h.nodup,h.o⟩
theorem ShAt.set{w':World}{sb:Nat}{gs:List Nat}{S:bK}(h:ShAt w sb gs aa S){r:List aC}(hi:gs[i]? =some g)(hr:aK w' g r)(hl:r.length=aa)(c:Ch (· =g) w w'):ShAt w' sb gs aa (S.set i r):=by
 have hne:sb≠g:=fun e=>h.o (e▸fu hi);refine⟨(c.block sb h.lt hne).trans h.blk,by rw[qB];exact h.len,fun j g' r' hj hr'=>?_,h.nodup,h.o⟩;rw[AA]at hr';by_cases hij:i=j
 ·subst hij;rw[aS rfl]at hr';split at hr'
  ·cases hr';rw[hi]at hj;cases hj;exact⟨hr,hl⟩
  ·cases hr'
 ·rw[aG hij]at hr';have hg:g'≠g:=fun e=>by subst e;exact hij ((List.getElem?_inj (ja.1 hi).1 h.nodup).1 (hi.trans hj.symm))
  exact⟨(h.row j g' r' hj hr').1.kept (c.block g' (h.YU (fu hj)) hg),(h.row j g' r' hj hr').2⟩
theorem ShAt.slice{sb:Nat}{gs:List Nat}{S:bK}(h:ShAt w sb gs aa S)(hi:gs[i]? =some g):w.cell? ⟨sb,i,none⟩=some (.slice (some ⟨g,0,none⟩) aa aa):=by rw[dJ _ _ _ _ _ _ h.blk];simp[M4,hi,Po]
theorem ShAt.get{sb:Nat}{gs:List Nat}{S:bK}(h:ShAt w sb gs aa S)(hi:i<S.length):∃g,gs[i]? =some g∧w.cell? ⟨sb,i,none⟩=some (.slice (some ⟨g,0,none⟩) aa aa)∧aK w g (S.getD i [])∧(S.getD i []).length=aa:=by
 have hg:i<gs.length:=by rw[h.len];exact hi
 have hr:=h.row i _ _ (gK hg) (gK hi);refine⟨_,gK hg,h.slice (gK hg),?_⟩;simpa[List.getD,gK hi]using hr
theorem Gm(r:List aC)(aa:Nat)(h:r.length=aa):gQ r 0 aa=dK aa:=by simp[gQ,dK,yj (Nat.le_of_eq h)]
theorem lay_all(r r2:List aC)(aa:Nat)(h:r.length=aa)(h2:r2.length=aa):gY r 0 ((r2.drop 0).take aa)=r2:=by rw[List.drop_zero,sG (Nat.le_of_eq h2),gY,List.take_zero,Ay,yj (by omega),Aw]
theorem kr(sb a n cap aa:Nat)(gs:List Nat)(S:bK)(w:World)(hs:ShAt w sb gs aa S)(han:a+n≤S.length)(hn:n≤100)(hc:aa≤100):
 Calls prog 227 #[.slice (some ⟨sb,a,none⟩) n cap] w fun e w'=>e= .returned (.tuple #[])∧ShAt w' sb gs aa (bF S a aa n)∧Ch (· ∈gs) w w':=by
 go_enter func227,ntmps227;go_wp2_with fail;go_loopw [6] (fun i wr=>∃k:Nat,k≤n∧i= .int .i64 k∧ShAt wr sb gs aa (bF S a aa k)∧Ch (· ∈gs) w wr) (fun i _=>n-(intOf i).toNat)
 case atStart=>exact⟨0,jy _,rfl,hs,Ch.refl _ _⟩
 case round=>
  obtain⟨k,hk,rfl,lU,hch⟩:=hrel;by_cases hlt:k<n
  ·have ik:(k:Int)<(n:Int):=by omega
   obtain⟨g,hg,hcell,hrow,hlen⟩:=lU.get (i:=a+k) (by rw[fG];omega);have HS:Hid _:=lU;have HC:Hid _:=hch;have HR:Hid (aK wr g ((bF S a aa k).getD (a+k) [])):=hrow;have HL:Hid _:=hlen;have HG:Hid _:=hg;clear lU hch hrow hlen hg;go_wp2_with (go_at_call 160;refine(jT g 0 0 aa _ _ _ rfl HR.o (by rw[HL.o];omega) (by rw[HL.o];omega)).mono ?_;rintro e w1 ⟨rfl,h1,c1⟩);have S2:=HS.o.set HG.o (by rw[Gm _ _ HL.o]at h1;exact h1) (by simp[dK]) c1;have C2:Ch (· ∈gs) w w1:=HC.o.trans (c1.mono fun k _ e=>e▸fu HG.o);clear HS HC HR HL HG h1 c1;go_wp2_with fail;go_roundw
   case rel=>exact⟨k+1,by omega,by go_num,S2,C2⟩
   case measure=>simp[intOf];omega
  ·have hkn:k=n:=by omega
   subst hkn;go_wp2_with fail;go_end0;exact⟨rfl,lU,hch⟩
structure dQ where
 row:Int
 col:Int
 waits:Bool
 pen:fO
 first:Int
 second:Int
 use:Int
 origin:Bool
deriving DecidableEq
def je:dQ:=⟨0,0,false,Ab,0,0,0,false⟩
structure TS where
 rows:Nat
 aa:Nat
 s0:bK
 v0:dQ
 s1:bK
 v1:dQ
 row:Int
 col:Int
 waits:Bool
 pen:fO
 first:Int
 second:Int
 use:Int
 origin:Bool
 top:Int
 bottom:Int
 wrap:Bool
 insert:Bool
 shown:Int
 tabs:List Bool
namespace TS
def fresh (rows aa:Nat):TS:=
 ⟨rows,aa,List.replicate rows (dK aa),je,List.replicate rows (dK aa),je,0,0,false,Ab,0,0,0,false,0,(rows:Int)-1,true,false,0,(List.range aa).map fun c=>decide (0<c∧c % 8=0)⟩
def spot (s:TS):dQ:=⟨s.row,s.col,s.waits,s.pen,s.first,s.second,s.use,s.origin⟩
def cur (s:TS):bK:=if s.shown=0 then s.s0 else s.s1
def setCur (s:TS) (S:bK):TS:=if s.shown=0 then{s with s0:=S} else{s with s1:=S}
def saved (s:TS):dQ:=if s.shown=0 then s.v0 else s.v1
def aY (s:TS):List aC:=s.cur.getD s.row.toNat []
def aI (s:TS) (r:List aC):TS:=s.setCur (s.cur.set s.row.toNat r)
def bn (n low high:Int):Int:=max low (min n high)
def bD (s:TS) (c:Int):TS:={s with col:=bn c 0 ((s.aa:Int)-1)}
def kX (s:TS) (r:Int):TS:={s with row:=bn r 0 ((s.rows:Int)-1)}
def aW (s:TS) (r:Int):TS:=if s.origin then{s with row:=bn (s.top+r) s.top s.bottom} else s.kX r
def home (s:TS):TS:={(s.aW 0).bD 0 with waits:=false}
def rise (s:TS) (n:Int):TS:={s with row:=max (s.row-n) (if s.top≤s.row then s.top else 0)}
def sink (s:TS) (n:Int):TS:={s with row:=min (s.row+n) (if s.row≤s.bottom then s.bottom else(s.rows:Int)-1)}
def height (s:TS):Nat:=(s.bottom+1-s.top).toNat
def fe (s:TS) (n:Nat):TS:=s.setCur (MM s.cur s.top.toNat s.height n s.aa)
def eG (s:TS) (n:Nat):TS:=s.setCur (oJ s.cur s.top.toNat s.height n s.aa)
def down (s:TS):TS:=if s.row=s.bottom then s.fe 1 else s.kX (s.row+1)
def up (s:TS):TS:=if s.row=s.top then s.eG 1 else s.kX (s.row-1)
def aT (s:TS):TS:=(s.bD 0).down
def iK (tabs:List Bool) (c:Nat):Int:=match (tabs.drop c).findIdx? id with
 |some i=>(c:Int)+(i:Int)
 |none=>(tabs.length:Int)-1
def lW (s:TS):TS:=s.bD (iK s.tabs (s.col.toNat+1))
def save (s:TS):TS:=if s.shown=0 then{s with v0:=s.spot} else{s with v1:=s.spot}
def nQ (s:TS) (p:dQ):TS:={s with row:=p.row,col:=p.col,waits:=p.waits,pen:=p.pen,first:=p.first,second:=p.second,use:=p.use,origin:=p.origin}
def restore (s:TS):TS:=s.nQ {s.saved with waits:=s.saved.waits&&s.wrap,row:=if s.saved.origin then bn s.saved.row s.top s.bottom else s.saved.row}
def pR (c:Int):Int:=
 if c=106 then 9496 else if c=107 then 9488 else if c=108 then 9484 else if c=109 then 9492 else if c=110 then 9532 else if c=113 then 9472 else
 if c=116 then 9500 else if c=117 then 9508 else if c=118 then 9524 else if c=119 then 9516 else if c=120 then 9474 else c
def spelt (s:TS) (c:Int):Int:=if(if s.use=1 then s.second else s.first)=1 then pR c else c
def jd (s:TS) (c:Int) (wd:Nat):TS:=s.aI (tL s.aY s.col.toNat (s.spelt c) wd s.pen)
def jr (s:TS) (wd:Nat):TS:=s.aI (fQ s.aY s.col.toNat wd)
def step (s:TS) (wd:Nat):TS:={s.bD (s.col+(wd:Int))with waits:=s.wrap&&decide ((s.aa:Int)-1<s.col+(wd:Int))}
def aJ (s:TS):TS:={s with waits:=false}
def dS (s:TS):TS:=if s.waits then s.aJ.aT else s
def iG (s:TS) (c:Int) (wd:Nat):TS:=((if s.insert then s.jr wd else s).jd c wd).step wd
def print (s:TS) (c:Int) (wd:Nat):TS:=
 if wd=0∨s.aa<wd then s
 else if(s.aa:Int)<s.dS.col+(wd:Int)then(if s.dS.wrap then s.dS.aT.iG c wd else s.dS)
 else s.dS.iG c wd
def control (s:TS) (c:Int):TS:=
 let t:=if 8≤c∧c≤13 then s.aJ else s
 if c=8 then t.bD (t.col-1)else if c=9 then t.lW else if c=10∨c=11∨c=12 then t.down else if c=13 then t.bD 0
 else if c=14 then{t with use:=1} else if c=15 then{t with use:=0} else t
def dB (f b:Int):Int:=if f=66 then 0 else if f=48 then 1 else b
def bare (s:TS) (f:Int):TS:=
 if f=55 then s.save else if f=56 then s.restore else if f=68 then s.aJ.down else if f=77 then s.aJ.up else if f=69 then s.aJ.aT
 else if f=72 then{s with tabs:=s.tabs.set s.col.toNat true} else if f=99 then fresh s.rows s.aa else s
def escape (s:TS) (mark f:Int):TS:=
 if mark=0 then s.bare f else if mark=40 then{s with first:=dB f s.first} else if mark=41 then{s with second:=dB f s.second} else s
def times (n:Int):Int:=max n 1
def amount (n:Int):Int:=max n 0
def move (s:TS) (f p0 p1:Int):TS:=
 if f=65 then s.rise (times p0)else if f=66 then s.sink (times p0)else if f=67 then s.bD (s.col+times p0)else if f=68 then s.bD (s.col-times p0)
 else if f=71 then s.bD (times p0-1)else if f=100 then s.aW (times p0-1)else if f=72∨f=102 then(s.aW (times p0-1)).bD (times p1-1)else s
def dA (s:TS) (what:Int):TS:=
 if what=0 then s.aI (fK s.aY s.col.toNat s.aa)else if what=1 then s.aI (fK s.aY 0 (s.col.toNat+1))else if what=2 then s.aI (fK s.aY 0 s.aa)else s
def dD (s:TS) (what:Int):TS:=
 if what=0 then s.setCur (bF s.cur (s.row.toNat+1) s.aa (s.rows-(s.row.toNat+1)))else if what=1 then s.setCur (bF s.cur 0 s.aa s.row.toNat)else if what=2 then s.setCur (bF s.cur 0 s.aa s.rows)else s
def inRegion (s:TS):Bool:=decide (s.top≤s.row∧s.row≤s.bottom)
def below (s:TS):Nat:=(s.bottom+1-s.row).toNat
def edit (s:TS) (f p0:Int):TS:=
 let n:=(times p0).toNat
 if f=74 then(s.dA (amount p0)).dD (amount p0)else if f=75 then s.dA (amount p0)else if f=64 then s.aI (fQ s.aY s.col.toNat n)
 else if f=80 then s.aI (iI s.aY s.col.toNat n)else if f=88 then s.aI (fK s.aY s.col.toNat (min (s.col.toNat+n) s.aa))
 else if f=76 then(if s.inRegion then(s.setCur (oJ s.cur s.row.toNat s.below n s.aa)).bD 0 else s)
 else if f=77 then(if s.inRegion then(s.setCur (MM s.cur s.row.toNat s.below n s.aa)).bD 0 else s)
 else if f=83 then s.fe n else if f=84 then s.eG n else s
def fH (s:TS) (top bottom:Int):TS:=
 let b:=if bottom<0∨(s.rows:Int)-1<bottom then(s.rows:Int)-1 else bottom
 if b≤top then s else{s with top:=top,bottom:=b}.home
def eD (s:TS) (what:Int):TS:=if what=0 then{s with tabs:=s.tabs.set s.col.toNat false} else if what=3 then{s with tabs:=List.replicate s.tabs.length false} else s
def turn (p:fO) (n:Int):fO:=
 if n=0 then Ab else if n=1∨n=22 then{p with b:=decide (n=1)} else if n=4∨n=24 then{p with u:=decide (n=4)} else if n=7∨n=27 then{p with t:=decide (n=7)}
 else if 30≤n∧n≤37 then{p with f:=n-29} else if n=39 then{p with f:=0} else if 40≤n∧n≤47 then{p with k:=n-39} else if n=49 then{p with k:=0} else p
def turns (s:TS):List Int→TS
 | []=>s
 |n::l=>({s with pen:=turn s.pen (amount n)}:TS).turns l
def jo (s:TS) (f:Int) (ps:List Int) (ct:Nat):TS:=
 if f=114 then s.fH (times (ps.getD 0 0)-1) (amount (ps.getD 1 0)-1)else if f=103 then s.eD (amount (ps.getD 0 0))else if f=109 then s.turns (ps.take ct)
 else if f=104∨f=108 then(if ps.getD 0 0=4 then{s with insert:=decide (f=104)} else s)else s
def set1 (s:TS) (n:Int) (on:Bool):TS:=
 if n=6 then({s with origin:=on}:TS).home else if n=7 then{s with wrap:=on,waits:=s.waits&&on} else if n=47 then{s with shown:=if on then 1 else 0} else s
def sets (s:TS) (on:Bool):List Int→TS
 | []=>s
 |n::l=>(s.set1 n on).sets on l
def mW (f:Int):Bool:=decide (f∈[65,66,67,68,71,100,72,102,64,80,88,76,77])
def sequence (s:TS) (mark f:Int) (ps:List Int) (ct:Nat):TS:=
 if mark=0 then
  let t:=if mW f then s.aJ else s
  ((t.move f (ps.getD 0 0) (ps.getD 1 0)).edit f (ps.getD 0 0)).jo f ps ct
 else if mark=63 then(if f=104∨f=108 then s.sets (decide (f=104)) (ps.take ct)else s)else s
end TS
end Go.Proofs.YtheibfffilomcabGreatDoor
