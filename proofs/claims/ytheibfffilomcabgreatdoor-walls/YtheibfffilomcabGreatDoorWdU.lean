import Derived.Test.YtheibfffilomcabGreatDoorEvnU
import Derived.Test.YtheibfffilomcabGreatDoorQaU
import Derived.Test.YtheibfffilomcabGreatDoorCcU
import Derived.Laws.BytesArg
set_option linter.all false
set_option maxHeartbeats 400000
namespace Go.Proofs.YtheibfffilomcabGreatDoor
open Go.RowKit Go.Proofs.Tryz
variable {a aa n:Nat} {S:bK} {b:Int}
def Ce (c:Int):Prop:=0≤c∧c≤1114111∧¬(55296≤c∧c≤57343)
def fO.Ok (p:fO):Prop:=0≤p.f∧p.f≤8∧0≤p.k∧p.k≤8
theorem uK:Aa.Ok:=⟨by decide,by decide,by decide,by decide⟩
def aC.Ok (c:aC):Prop:=Ce c.r∧c.p.Ok
theorem yH:aQ.Ok:=⟨⟨by decide,by decide,by decide⟩,uK⟩
inductive bX:List aC→Prop
 |nil:bX []
 |one (c:aC) (r:List aC) (hp:c.part=0) (hw:nD c.r=1) (hs:c.Ok) (h:bX r):bX (c::r)
 |two (c:aC) (r:List aC) (hp:c.part=1) (hw:nD c.r=2) (hs:c.Ok) (h:bX r):bX (c::lN c::r)
theorem bX.append{a b:List aC}(h:bX a)(k:bX b):bX (a++b):=by
 induction h with
 |nil=>exact k
 |one c r hp hw hs _ ih=>exact .one c _ hp hw hs ih
 |two c r hp hw hs _ ih=>exact .two c _ hp hw hs ih
theorem Qe:nD 32=1:=by decide
theorem bX.blank(n:Nat):bX (List.replicate n aQ):=by
 induction n with
 |zero=>exact .nil
 |succ n ih=>exact .one _ _ rfl Qe yH ih
theorem bX.head{r:List aC}(h:bX r)(d:aC)(hd:d.part≠2):(r.getD 0 d).part≠2:=by
 cases h with
 |nil=>exact hd
 |one c r hp _ _ _=>simp[hp]
 |two c r hp _ _ _=>simp[hp]
theorem bX.cut{r:List aC}(h:bX r):∀a,(bX (r.take a)∧bX (r.drop a))∨∃A c B,r=A++c::lN c::B∧A.length+1=a∧bX A∧bX B:=by
 induction h with
 |nil=>intro a;left;simp;exact bX.nil
 |one c r hp hw hs h ih=>
  intro a;cases a with
  |zero=>left;exact⟨.nil,.one c r hp hw hs h⟩
  |succ a=>
   rcases ih a with⟨h1,h2⟩|⟨A,d,B,h1,h2,h3,h4⟩
   ·left;exact⟨.one c _ hp hw hs h1,h2⟩
   ·right;exact⟨c::A,d,B,by rw[h1];rfl,by simp[h2],.one c _ hp hw hs h3,h4⟩
 |two c r hp hw hs h ih=>
  intro a
  match a with
  | 0=>left;exact⟨.nil,.two c r hp hw hs h⟩
  | 1=>right;exact⟨[],c,r,rfl,rfl,.nil,h⟩
  |a+2=>
   rcases ih a with⟨h1,h2⟩|⟨A,d,B,h1,h2,h3,h4⟩
   ·left;exact⟨.two c _ hp hw hs h1,h2⟩
   ·right;exact⟨c::lN c::A,d,B,by rw[h1];rfl,by simp[h2],.two c _ hp hw hs h3,h4⟩
theorem wz{r:List aC}(h:∀x,r[a]? =some x→x.part≠2):ay r a=r:=by
 unfold ay;rw[aG];rintro⟨_,h2,h3⟩;have:=h _ (gK h2);apply this;have e:r.getD a aQ=r[a]:=by simp[List.getD,gK h2]
 rw[←e,h3];rfl
theorem wm(A:List aC)(c:aC)(B:List aC):ay (A++c::lN c::B) (A.length+1)=A++aQ::aQ::B:=by
 unfold ay;rw[aS]
 ·simp
 ·refine⟨by omega,by simp,?_⟩;simp[List.getD]
theorem bX.at0{r:List aC}(h:bX r){x:aC}(hx:r[0]? =some x):x.part≠2:=by
 cases h with
 |nil=>simp at hx
 |one c r hp _ _ _=>simp at hx;subst hx;omega
 |two c r hp _ _ _=>simp at hx;subst hx;omega
theorem PE{r:List aC}(h:bX r)(ha:a≤r.length):∃P Q,ay r a=P++Q∧P.length=a∧bX P∧bX Q:=by
 rcases h.cut a with⟨h1,h2⟩|⟨A,c,B,rfl,rfl,h3,h4⟩
 ·refine⟨r.take a,r.drop a,?_,by simp[ha],h1,h2⟩;rw[List.take_append_drop];apply wz;intro x hx;exact h2.at0 (x:=x) (by rw[qC];simpa using hx)
 ·refine⟨A++[aQ],aQ::B,?_,by simp,h3.append (.one _ _ rfl Qe yH .nil),.one _ _ rfl Qe yH h4⟩;rw[wm];simp
theorem Mk(P:List aC){Q:List aC}(h:bX Q)(k:Nat):ay (P++Q) (P.length+k)=P++ay Q k:=by
 rcases h.cut k with⟨h1,h2⟩|⟨A,c,B,rfl,rfl,h3,h4⟩
 ·have hq:∀x,Q[k]? =some x→x.part≠2:=fun x hx=>h2.at0 (x:=x) (by rw[qC];simpa using hx);rw[wz hq,wz];intro x hx;rw[wP (by omega)]at hx;exact hq x (by simpa using hx)
 ·have e:P++(A++c::lN c::B)=(P++A)++c::lN c::B:=by simp
  rw[e,show P.length+(A.length+1)=(P++A).length+1 by simp;omega,wm,wm];simp
theorem Db{r:List aC}(h:bX r){b:Nat}(hab:a≤b)(hb:b≤r.length):∃P M Q,ay (ay r a) b=P++(M++Q)∧P.length=a∧M.length=b-a∧bX P∧bX M∧bX Q:=by
 obtain⟨P,R,e,hp,g1,g2⟩:=PE h (a:=a) (by omega);have hl:r.length=P.length+R.length:=by rw[←lQ, ←e,ax]
 obtain⟨M,Q,e2,hm,g3,g4⟩:=PE g2 (a:=b-a) (by omega);refine⟨P,M,Q,?_,hp,hm,g1,g3,g4⟩;rw[e,show b=P.length+(b-a) by omega,Mk P g2,e2]
theorem bX.clear{r:List aC}(h:bX r){b:Nat}(hab:a≤b)(hb:b≤r.length):bX (fK r a b):=by
 obtain⟨P,M,Q,e,h1,h2,h3,h4,h5⟩:=Db h hab hb;unfold fK gQ;rw[e];have e1:(P++(M++Q)).take a=P:=by rw[←h1];simp
 have e2:(P++(M++Q)).drop (a+(b-a))=Q:=by rw[←sF,show a+(b-a)=(P++M).length by simp;omega,List.drop_left]
 rw[e1,e2];exact h3.append ((bX.blank _).append h5)
theorem bX.put{r:List aC}(h:bX r){c:Int}{wd:Nat}(p:fO)(hs:Ce c)(hp:p.Ok)(hw:nD c=wd)(hwd:wd=1∨wd=2)(hb:a+wd≤r.length):bX (tL r a c wd p):=by
 obtain⟨P,M,Q,e,h1,h2,h3,h4,h5⟩:=Db h (a:=a) (b:=a+wd) (by omega) hb;unfold tL;rw[e];subst h1;rcases hwd with rfl|rfl
 ·rw[aG (by decide)]
  match M,h2 with
  | [x],_=>simp;exact h3.append (.one _ _ rfl (by exact_mod_cast hw) ⟨hs,hp⟩ h5)
  | [],h2=>simp at h2
  |x::y::M,h2=>simp at h2
 ·rw[aS rfl]
  match M,h2 with
  | [x,y],_=>simp;exact h3.append (.two ⟨c,p,1⟩ _ rfl (by exact_mod_cast hw) ⟨hs,hp⟩ h5)
  | [],h2=>simp at h2
  | [x],h2=>simp at h2
  |x::y::z::M,h2=>simp at h2
theorem bX.ins{r:List aC}(h:bX r)(hb:a+n≤r.length):bX (uF r a n):=by
 obtain⟨P,M,Q,e,h1,h2,h3,h4,h5⟩:=Db h (a:=a) (b:=r.length-n) (by omega) (by omega);have hl:r.length=P.length+(M.length+Q.length):=by rw[←lQ, ←lQ, ←e,ax,ax]
 unfold uF;rw[e];have e1:((P++(M++Q)).drop a).take (r.length-(a+n))=M:=by rw[←h1,List.drop_left,show r.length-(P.length+n)=M.length by omega,Ay]
 rw[e1];unfold gY;have e2:(P++(M++Q)).drop (a+n+M.length)=[]:=M3 (by simp;omega);rw[e2,Av];unfold gQ;have hT:((P++(M++Q)).take (a+n)).length=a+n:=by simp;omega
 have e3:((P++(M++Q)).take (a+n)++M).take a=P:=by rw[List.take_append_of_le_length (by omega),List.take_take,yl (by omega), ←h1,Ay]
 have e4:((P++(M++Q)).take (a+n)++M).drop (a+n)=M:=by rw[List.drop_append,M3 (by omega),hT];simp
 rw[e3,e4];exact h3.append ((bX.blank _).append h4)
theorem bX.rem{r:List aC}(h:bX r)(hb:a+n≤r.length):bX (uQ r a n):=by
 obtain⟨P,M,Q,e,h1,h2,h3,h4,h5⟩:=Db h (a:=a) (b:=a+n) (by omega) hb;have hl:r.length=P.length+(M.length+Q.length):=by rw[←lQ, ←lQ, ←e,ax,ax]
 unfold uQ;rw[e];have e1:(P++(M++Q)).drop (a+n)=Q:=by rw[←sF,show a+n=(P++M).length by simp;omega,List.drop_left]
 rw[e1];unfold gY gQ;have e2:(P++(M++Q)).take a=P:=by rw[←h1,Ay]
 rw[e2];have e3:(P++(Q++(P++(M++Q)).drop (a+Q.length))).take (r.length-n)=P++Q:=by rw[←sF,show r.length-n=(P++Q).length by simp;omega,Ay]
 have e4:(P++(Q++(P++(M++Q)).drop (a+Q.length))).drop (r.length-n+n)=[]:=M3 (by simp;omega);rw[e3,e4,Av];exact(h3.append h5).append (bX.blank _)
def GoodS (aa:Nat) (S:bK):Prop:=∀r∈S,bX r∧r.length=aa
theorem GoodS.set(h:GoodS aa S)(i:Nat){r:List aC}(hr:bX r∧r.length=aa):GoodS aa (S.set i r):=fun q hq=>by
 rcases List.mem_or_eq_of_mem_set hq with hq|rfl
 ·exact h q hq
 ·exact hr
theorem GoodS.getD(h:GoodS aa S){i:Nat}(hi:i<S.length):bX (S.getD i [])∧(S.getD i []).length=aa:=by
 have e:S.getD i []=S[i]:=by simp[List.getD,gK hi]
 rw[e];exact h _ (Jp hi)
theorem GoodS.bF(h:GoodS aa S)(a i:Nat):GoodS aa (bF S a aa i):=by
 induction i with
 |zero=>exact h
 |succ i ih=>exact ih.set _ ⟨bX.blank _,by simp[dK]⟩
theorem GoodS.lD(h:GoodS aa S)(a n:Nat):∀i,a+i+n≤S.length→GoodS aa (lD S a n i):=by
 intro i;induction i with
 |zero=>intro _;exact h
 |succ i ih=>intro hi;exact(ih (by omega)).set _ ((ih (by omega)).getD (by rw[jg];omega))
theorem GoodS.fC(h:GoodS aa S)(a n len:Nat)(hl:a+len≤S.length):∀i,i+n≤len→GoodS aa (fC S a n len i):=by
 intro i;induction i with
 |zero=>intro _;exact h
 |succ i ih=>intro hi;exact(ih (by omega)).set _ ((ih (by omega)).getD (by rw[ig];omega))
theorem GoodS.up(h:GoodS aa S)(a len n:Nat)(hl:a+len≤S.length):GoodS aa (MJ S a len n aa):=by
 unfold MJ;refine GoodS.bF ?_ _ _;by_cases hn:n≤len
 ·exact h.lD a n _ (by omega)
 ·rw[show len-min n len=0 by omega];exact h
theorem GoodS.down(h:GoodS aa S)(a len n:Nat)(hl:a+len≤S.length):GoodS aa (oJ S a len n aa):=by unfold oJ;exact GoodS.bF (h.fC a _ len hl _ (by omega)) _ _
structure dQ.Fit (aa:Nat) (q:dQ):Prop where
 f:q.first=0∨q.first=1
 sc:q.second=0∨q.second=1
 u:q.use=0∨q.use=1
 p:q.pen.Ok
 w:q.waits=true→q.col=(aa:Int)-1
structure TS.Fit (s:TS):Prop where
 g0:GoodS s.aa s.s0
 g1:GoodS s.aa s.s1
 f:s.first=0∨s.first=1
 sc:s.second=0∨s.second=1
 u:s.use=0∨s.use=1
 p:s.pen.Ok
 w:s.waits=true→s.col=(s.aa:Int)-1
 wr:s.waits=true→s.wrap=true
 v0:s.v0.Fit s.aa
 v1:s.v1.Fit s.aa
 o:s.origin=true→s.top≤s.row∧s.row≤s.bottom
 tb:s.top<s.bottom∨s.rows=1
namespace TS
theorem Fit.setCur{s:TS}(h:s.Fit){S:bK}(hS:GoodS s.aa S):(s.setCur S).Fit:=by
 unfold TS.setCur;split
 ·exact⟨hS,h.g1,h.f,h.sc,h.u,h.p,h.w,h.wr,h.v0,h.v1,h.o,h.tb⟩
 ·exact⟨h.g0,hS,h.f,h.sc,h.u,h.p,h.w,h.wr,h.v0,h.v1,h.o,h.tb⟩
theorem Fit.cur{s:TS}(h:s.Fit):GoodS s.aa s.cur:=by
 unfold TS.cur;split
 ·exact h.g0
 ·exact h.g1
theorem Fit.aY{s:TS}(h:s.Fit)(hi:s.Inv):bX s.aY∧s.aY.length=s.aa:=h.cur.getD (by rw[hi.nW];have:=hi.row0;have:=hi.iT;omega)
theorem Fit.setRow{s:TS}(h:s.Fit){r:List aC}(hr:bX r∧r.length=s.aa):(s.aI r).Fit:=h.setCur (h.cur.set _ hr)
theorem Fit.aJ{s:TS}(h:s.Fit):s.aJ.Fit:=⟨h.g0,h.g1,h.f,h.sc,h.u,h.p,fun e=>(by cases e),fun e=>(by cases e),h.v0,h.v1,h.o,h.tb⟩
theorem Fit.bD{s:TS}(h:s.Fit)(hw:s.waits=false)(c:Int):(s.bD c).Fit:=⟨h.g0,h.g1,h.f,h.sc,h.u,h.p,fun e=>(by rw[show(s.bD c).waits=s.waits from rfl,hw]at e;cases e),h.wr,h.v0,h.v1,h.o,h.tb⟩
theorem Fit.kX{s:TS}(h:s.Fit)(c:Int)(ho:s.origin=true→s.top≤c∧c≤s.bottom)(hi:s.Inv):(s.kX c).Fit:=by refine⟨h.g0,h.g1,h.f,h.sc,h.u,h.p,h.w,h.wr,h.v0,h.v1,fun e=>?_,h.tb⟩;have:=ho e;have:=hi.gN;have:=hi.bot;show s.top≤bn c 0 ((s.rows:Int)-1)∧bn c 0 ((s.rows:Int)-1)≤s.bottom;unfold bn;omega
theorem Fit.aW{s:TS}(h:s.Fit)(c:Int)(hi:s.Inv):(s.aW c).Fit:=by
 unfold TS.aW;split
 ·refine⟨h.g0,h.g1,h.f,h.sc,h.u,h.p,h.w,h.wr,h.v0,h.v1,fun e=>?_,h.tb⟩;have:=hi.tb;show s.top≤bn _ _ _∧bn _ _ _≤s.bottom;unfold bn;omega
 ·rename_i ho;exact h.kX c (fun e=>absurd e (by simpa using ho)) hi
theorem lu(s:TS)(c:Int):(s.aW c).waits=s.waits:=by unfold TS.aW;split<;>rfl
theorem Fit.home{s:TS}(h:s.aJ.Fit)(hi:s.Inv):s.home.Fit:=by
 have e:s.home=((s.aJ).aW 0).bD 0:=by unfold TS.home TS.aJ TS.aW;split<;>rfl
 rw[e];exact(h.aW 0 hi.aJ).bD (by rw[lu];rfl) 0
theorem Fit.rise{s:TS}(h:s.Fit)(n:Int)(hn:0≤n):(s.rise n).Fit:=by refine⟨h.g0,h.g1,h.f,h.sc,h.u,h.p,h.w,h.wr,h.v0,h.v1,fun e=>?_,h.tb⟩;have:=h.o e;show s.top≤max (s.row-n) (if s.top≤s.row then s.top else 0)∧max (s.row-n) (if s.top≤s.row then s.top else 0)≤s.bottom;rw[aS this.1];omega
theorem Fit.sink{s:TS}(h:s.Fit)(n:Int)(hn:0≤n):(s.sink n).Fit:=by refine⟨h.g0,h.g1,h.f,h.sc,h.u,h.p,h.w,h.wr,h.v0,h.v1,fun e=>?_,h.tb⟩;have:=h.o e;show s.top≤min (s.row+n) (if s.row≤s.bottom then s.bottom else(s.rows:Int)-1)∧min (s.row+n) (if s.row≤s.bottom then s.bottom else(s.rows:Int)-1)≤s.bottom;rw[aS this.2];omega
theorem Fit.fe{s:TS}(h:s.Fit)(hi:s.Inv)(n:Nat):(s.fe n).Fit:=h.setCur (h.cur.up _ _ _ (by rw[hi.nW];unfold TS.height;have:=hi.gN;have:=hi.tb;have:=hi.bot;omega))
theorem Fit.eG{s:TS}(h:s.Fit)(hi:s.Inv)(n:Nat):(s.eG n).Fit:=h.setCur (h.cur.down _ _ _ (by rw[hi.nW];unfold TS.height;have:=hi.gN;have:=hi.tb;have:=hi.bot;omega))
theorem Fit.down{s:TS}(h:s.Fit)(hi:s.Inv):s.down.Fit:=by
 unfold TS.down;split
 ·exact h.fe hi 1
 ·exact h.kX _ (fun e=>by have:=h.o e;omega) hi
theorem Fit.up{s:TS}(h:s.Fit)(hi:s.Inv):s.up.Fit:=by
 unfold TS.up;split
 ·exact h.eG hi 1
 ·exact h.kX _ (fun e=>by have:=h.o e;omega) hi
theorem Fit.aT{s:TS}(h:s.Fit)(hi:s.Inv)(hw:s.waits=false):s.aT.Fit:=(h.bD hw 0).down (hi.bD 0)
theorem Fit.save{s:TS}(h:s.Fit):s.save.Fit:=by
 unfold TS.save;split
 ·exact⟨h.g0,h.g1,h.f,h.sc,h.u,h.p,h.w,h.wr,⟨h.f,h.sc,h.u,h.p,h.w⟩,h.v1,h.o,h.tb⟩
 ·exact⟨h.g0,h.g1,h.f,h.sc,h.u,h.p,h.w,h.wr,h.v0,⟨h.f,h.sc,h.u,h.p,h.w⟩,h.o,h.tb⟩
theorem Fit.saved{s:TS}(h:s.Fit):s.saved.Fit s.aa:=by
 unfold TS.saved;split
 ·exact h.v0
 ·exact h.v1
theorem Fit.restore{s:TS}(h:s.Fit)(hi:s.Inv):s.restore.Fit:=by
 have hv:=h.saved;unfold TS.restore TS.nQ;refine⟨h.g0,h.g1,hv.f,hv.sc,hv.u,hv.p,fun e=>?_,fun e=>?_,h.v0,h.v1,fun e=>?_,h.tb⟩
 ·exact hv.w (by simpa using(AB.1 e).1)
 ·exact(AB.1 e).2
 ·have:=hi.tb;have e:s.saved.origin=true:=e;show s.top≤(if s.saved.origin=true then bn s.saved.row s.top s.bottom else s.saved.row)∧(if s.saved.origin=true then bn s.saved.row s.top s.bottom else s.saved.row)≤s.bottom;rw[aS e];unfold bn;omega
theorem Hy(c:Int):nD (pR c)=nD c:=by
 unfold pR
 repeat' split
 all_goals first|rfl|(subst_vars;decide)
theorem Li{c:Int}(h:Ce c):Ce (pR c):=by
 obtain⟨h1,h2,h3⟩:=h;unfold pR
 repeat' split
 all_goals first|exact⟨h1,h2,h3⟩|(refine⟨?_,?_,?_⟩<;>omega)
theorem PD(s:TS){c:Int}(h:Ce c):Ce (s.spelt c):=by
 unfold TS.spelt
 repeat' split
 all_goals first|exact Li h|exact h
theorem Mj(s:TS)(c:Int):nD (s.spelt c)=nD c:=by
 unfold TS.spelt
 repeat' split
 all_goals first|rfl|exact Hy c
theorem iU(s:TS)(S:bK):(s.setCur S).aa=s.aa∧(s.setCur S).col=s.col∧(s.setCur S).wrap=s.wrap∧(s.setCur S).waits=s.waits:=by unfold TS.setCur;split<;>exact⟨rfl,rfl,rfl,rfl⟩
theorem Fit.put{s:TS}(h:s.Fit)(hi:s.Inv)(c:Int)(wd:Nat)(hs:Ce c)(hw:nD c=wd)(hwd:wd=1∨wd=2)(hc:s.col+(wd:Int)≤(s.aa:Int)):(s.jd c wd).Fit:=by obtain⟨g,l⟩:=h.aY hi;have:=hi.fU;exact h.setRow ⟨g.put _ (PD s hs) h.p (by rw[Mj];exact hw) hwd (by rw[l];omega),by rw[qW,l]⟩
theorem Fit.ins{s:TS}(h:s.Fit)(hi:s.Inv)(wd:Nat):(s.aI (fQ s.aY s.col.toNat wd)).Fit:=by obtain⟨g,l⟩:=h.aY hi;have:=hi.fU;have:=hi.gz;refine h.setRow ⟨?_,by rw[mQ _ _ _ (by rw[l];omega),l]⟩;unfold fQ;exact g.ins (by rw[l];omega)
theorem Fit.rem{s:TS}(h:s.Fit)(hi:s.Inv)(wd:Nat):(s.aI (iI s.aY s.col.toNat wd)).Fit:=by obtain⟨g,l⟩:=h.aY hi;have:=hi.fU;have:=hi.gz;refine h.setRow ⟨?_,by rw[qX _ _ _ (by rw[l];omega),l]⟩;unfold iI;exact g.rem (by rw[l];omega)
theorem Fit.clr{s:TS}(h:s.Fit)(hi:s.Inv)(a b:Nat)(hab:a≤b)(hb:b≤s.aa):(s.aI (fK s.aY a b)).Fit:=by obtain⟨g,l⟩:=h.aY hi;exact h.setRow ⟨g.clear hab (by omega),by rw[iA _ _ _ (by omega) hab,l]⟩
theorem Fit.step{s:TS}(h:s.Fit)(hi:s.Inv)(wd:Nat):(s.step wd).Fit:=by
 refine⟨h.g0,h.g1,h.f,h.sc,h.u,h.p,fun e=>?_,fun e=>?_,h.v0,h.v1,h.o,h.tb⟩
 ·have:=nG (AB.1 e).2;have:=hi.c1;show bn (s.col+(wd:Int)) 0 ((s.aa:Int)-1)=(s.aa:Int)-1;unfold bn;omega
 ·exact(AB.1 e).1
theorem Fit.iG{s:TS}(h:s.Fit)(hi:s.Inv)(c:Int)(wd:Nat)(hs:Ce c)(hw:nD c=wd)(hwd:wd=1∨wd=2)(hc:s.col+(wd:Int)≤(s.aa:Int)):(s.iG c wd).Fit:=by
 unfold TS.iG;have k:(if s.insert then s.jr wd else s).Fit∧(if s.insert then s.jr wd else s).Inv∧(if s.insert then s.jr wd else s).aa=s.aa∧(if s.insert then s.jr wd else s).col=s.col:=by
  split
  ·exact⟨h.ins hi wd,hi.aI _,(iU _ _).1,(iU _ _).2.1⟩
  ·exact⟨h,hi,rfl,rfl⟩
 obtain⟨k1,k2,k3,k4⟩:=k;exact(k1.put k2 c wd hs hw hwd (by rw[k3,k4];exact hc)).step (k2.aI _) wd
theorem Fit.dS{s:TS}(h:s.Fit)(hi:s.Inv):s.dS.Fit∧s.dS.waits=false:=by
 unfold TS.dS;split
 ·refine⟨h.aJ.aT hi.aJ rfl,?_⟩;unfold TS.aT TS.down;split
  ·unfold TS.fe;rw[(iU _ _).2.2.2];rfl
  ·rfl
 ·rename_i hw;exact⟨h,by simpa using hw⟩
theorem CG(s:TS)(hi:s.Inv):s.aT.col=0∧s.aT.aa=s.aa:=by
 have:=hi.c1;have e:(s.bD 0).col=0:=by show bn 0 0 ((s.aa:Int)-1)=0;unfold bn;omega
 unfold TS.aT TS.down;split
 ·unfold TS.fe;rw[(iU _ _).2.1,(iU _ _).1];exact⟨e,rfl⟩
 ·exact⟨e,rfl⟩
theorem Fit.print{s:TS}(h:s.Fit)(hi:s.Inv){c:Int}(hs:Ce c):(s.print c (nD c).toNat).Fit:=by
 have hb:=zP c;obtain⟨wd,hwd⟩:∃wd:Nat,(nD c).toNat=wd:=⟨_,rfl⟩;have hw:nD c=(wd:Int):=by omega
 rw[hwd];unfold TS.print;obtain⟨p1,p2⟩:=h.dS hi;have ec:s.dS.aa=s.aa:=by have:=GU s;exact congrArg Prod.snd this
 split
 ·exact h
 ·rename_i hz;split
  ·split
   ·obtain⟨e1,e2⟩:=CG s.dS hi.dS;exact(p1.aT hi.dS p2).iG hi.dS.aT c wd hs hw (by omega) (by rw[e1,e2,ec];omega)
   ·exact p1
  ·exact p1.iG hi.dS c wd hs hw (by omega) (by rw[ec];omega)
theorem Fit.control{s:TS}(h:s.Fit)(hi:s.Inv)(c:Int):(s.control c).Fit:=by
 unfold TS.control;dsimp only;by_cases hc:8≤c∧c≤13
 ·rw[aS hc];have h:=h.aJ;have hi:=hi.aJ
  repeat' split
  ·exact h.bD rfl _
  ·exact h.bD rfl _
  ·exact h.down hi
  ·exact h.bD rfl _
  ·omega
  ·omega
  ·exact h
 ·rw[aG hc]
  repeat' split
  ·omega
  ·omega
  ·omega
  ·omega
  ·exact⟨h.g0,h.g1,h.f,h.sc,.inr rfl,h.p,h.w,h.wr,h.v0,h.v1,h.o,h.tb⟩
  ·exact⟨h.g0,h.g1,h.f,h.sc,.inl rfl,h.p,h.w,h.wr,h.v0,h.v1,h.o,h.tb⟩
  ·exact h
theorem Fit.fresh{rows aa:Nat}(hr:1≤rows∧rows≤12):(TS.fresh rows aa).Fit:=by
 have g:GoodS aa (List.replicate rows (dK aa)):=fun r hr=>by rw[(M6 hr)];exact⟨bX.blank _,by simp[dK]⟩
 exact⟨g,g,.inl rfl,.inl rfl,.inl rfl,uK,fun e=>(by cases e),fun e=>(by cases e),⟨.inl rfl,.inl rfl,.inl rfl,uK,fun e=>(by cases e)⟩,⟨.inl rfl,.inl rfl,.inl rfl,uK,fun e=>(by cases e)⟩,fun e=>(by cases e),by show(0:Int)<(rows:Int)-1∨rows=1;omega⟩
theorem Fit.bare{s:TS}(h:s.Fit)(hi:s.Inv)(f:Int):(s.bare f).Fit:=by
 unfold TS.bare
 repeat' split
 ·exact h.save
 ·exact h.restore hi
 ·exact h.aJ.down hi.aJ
 ·exact h.aJ.up hi.aJ
 ·exact h.aJ.aT hi.aJ rfl
 ·exact⟨h.g0,h.g1,h.f,h.sc,h.u,h.p,h.w,h.wr,h.v0,h.v1,h.o,h.tb⟩
 ·exact Fit.fresh ⟨hi.r1,hi.r2⟩
 ·exact h
theorem Xw(f b:Int)(h:b=0∨b=1):dB f b=0∨dB f b=1:=by
 unfold dB
 repeat' split
 ·exact .inl rfl
 ·exact .inr rfl
 ·exact h
theorem Fit.escape{s:TS}(h:s.Fit)(hi:s.Inv)(mk f:Int):(s.escape mk f).Fit:=by
 unfold TS.escape
 repeat' split
 ·exact h.bare hi f
 ·exact⟨h.g0,h.g1,Xw _ _ h.f,h.sc,h.u,h.p,h.w,h.wr,h.v0,h.v1,h.o,h.tb⟩
 ·exact⟨h.g0,h.g1,h.f,Xw _ _ h.sc,h.u,h.p,h.w,h.wr,h.v0,h.v1,h.o,h.tb⟩
 ·exact h
theorem P8(n:Int):1≤times n:=by unfold times;omega
theorem Fit.move{s:TS}(h:s.Fit)(hi:s.Inv)(f p0 p1:Int)(hw:mW f=true→s.waits=false):(s.move f p0 p1).Fit:=by
 have ht:=P8 p0;unfold TS.move;split
 ·exact h.rise _ (by omega)
 ·split
  ·exact h.sink _ (by omega)
  ·split
   ·rename_i e;subst e;exact h.bD (hw (by decide)) _
   ·split
    ·rename_i e;subst e;exact h.bD (hw (by decide)) _
    ·split
     ·rename_i e;subst e;exact h.bD (hw (by decide)) _
     ·split
      ·exact h.aW _ hi
      ·split
       ·rename_i e;have hw2:s.waits=false:=by rcases e with rfl|rfl<;>exact hw (by decide)
        exact(h.aW _ hi).bD (by rw[lu];exact hw2) _
       ·exact h
theorem Fit.dA{s:TS}(h:s.Fit)(hi:s.Inv)(n:Int):(s.dA n).Fit:=by
 have:=hi.fU;have:=hi.gz;unfold TS.dA
 repeat' split
 ·exact h.clr hi _ _ (by omega) (by omega)
 ·exact h.clr hi _ _ (by omega) (by omega)
 ·exact h.clr hi _ _ (by omega) (by omega)
 ·exact h
theorem Fit.dD{s:TS}(h:s.Fit)(n:Int):(s.dD n).Fit:=by
 unfold TS.dD
 repeat' split
 ·exact h.setCur (h.cur.bF _ _)
 ·exact h.setCur (h.cur.bF _ _)
 ·exact h.setCur (h.cur.bF _ _)
 ·exact h
theorem Fit.edit{s:TS}(h:s.Fit)(hi:s.Inv)(f p:Int)(hw:mW f=true→s.waits=false):(s.edit f p).Fit:=by
 have:=hi.fU;have:=hi.gz;have:=hi.row0;have:=hi.bot;unfold TS.edit;dsimp only;split
 ·exact(h.dA hi _).dD _
 ·split
  ·exact h.dA hi _
  ·split
   ·exact h.ins hi _
   ·split
    ·exact h.rem hi _
    ·split
     ·exact h.clr hi _ _ (by omega) (by omega)
     ·split
      ·rename_i e;subst e;split
       ·rename_i hr;have hr:=nG hr;exact(h.setCur (h.cur.down _ _ _ (by rw[hi.nW];unfold TS.below;omega))).bD (by rw[(iU _ _).2.2.2];exact hw (by decide)) 0
       ·exact h
      ·split
       ·rename_i e;subst e;split
        ·rename_i hr;have hr:=nG hr;exact(h.setCur (h.cur.up _ _ _ (by rw[hi.nW];unfold TS.below;omega))).bD (by rw[(iU _ _).2.2.2];exact hw (by decide)) 0
        ·exact h
       ·split
        ·exact h.fe hi _
        ·split
         ·exact h.eG hi _
         ·exact h
theorem Fit.fH{s:TS}(h:s.Fit)(hi:s.Inv)(top bottom:Int)(h0:0≤top):(s.fH top bottom).Fit:=by
 unfold TS.fH;dsimp only;generalize hb:(if bottom<0∨(s.rows:Int)-1<bottom then(s.rows:Int)-1 else bottom)=b;have hb2:b<(s.rows:Int):=by rw[←hb];have:=hi.r1;split<;>omega
 split
 ·exact h
 ·rename_i hlt;have hi2:({s with top:=top,bottom:=b}:TS).Inv:=hi.upd rfl rfl rfl rfl rfl rfl rfl hi.row0 hi.iT hi.fU hi.gz h0 (by show top≤b;omega) hb2 hi.sh;have e:({s with top:=top,bottom:=b}:TS).home=(({s with top:=top,bottom:=b}:TS).aJ.aW 0).bD 0:=by unfold TS.home TS.aJ TS.aW;split<;>rfl
  rw[e];have hb1:({s with top:=top,bottom:=b}:TS).bottom=b:=rfl;refine⟨?_,?_,?_,?_,?_,?_,?_,?_,?_,?_,?_,?_⟩
  all_goals (unfold TS.aW;split)
  ·exact h.g0
  ·exact h.g0
  ·exact h.g1
  ·exact h.g1
  ·exact h.f
  ·exact h.f
  ·exact h.sc
  ·exact h.sc
  ·exact h.u
  ·exact h.u
  ·exact h.p
  ·exact h.p
  ·intro e;cases e
  ·intro e;cases e
  ·intro e;cases e
  ·intro e;cases e
  ·exact h.v0
  ·exact h.v0
  ·exact h.v1
  ·exact h.v1
  ·intro _;show top≤bn (top+0) top b∧bn (top+0) top b≤b;unfold bn;omega
  ·rename_i ho;intro e;exact absurd e ho
  ·exact .inl (by show top<b;omega)
  ·exact .inl (by show top<b;omega)
theorem Fit.eD{s:TS}(h:s.Fit)(n:Int):(s.eD n).Fit:=by
 unfold TS.eD
 repeat' split
 ·exact⟨h.g0,h.g1,h.f,h.sc,h.u,h.p,h.w,h.wr,h.v0,h.v1,h.o,h.tb⟩
 ·exact⟨h.g0,h.g1,h.f,h.sc,h.u,h.p,h.w,h.wr,h.v0,h.v1,h.o,h.tb⟩
 ·exact h
theorem RX{p:fO}(h:p.Ok)(n:Int):(turn p n).Ok:=by
 obtain⟨h1,h2,h3,h4⟩:=h;unfold turn
 repeat' split
 all_goals first|exact uK|exact⟨h1,h2,h3,h4⟩|(refine⟨?_,?_,?_,?_⟩<;>dsimp only<;>omega)
theorem Fit.turns(l:List Int):∀{s:TS},s.Fit→(s.turns l).Fit:=by
 induction l with
 |nil=>intro s h;exact h
 |cons n l ih=>intro s h;exact ih (s:={s with pen:=turn s.pen (amount n)}) ⟨h.g0,h.g1,h.f,h.sc,h.u,RX h.p _,h.w,h.wr,h.v0,h.v1,h.o,h.tb⟩
theorem Fit.jo{s:TS}(h:s.Fit)(hi:s.Inv)(f:Int)(ps:List Int)(ct:Nat):(s.jo f ps ct).Fit:=by
 have:=P8 (ps.getD 0 0);unfold TS.jo;split
 ·exact h.fH hi _ _ (by omega)
 ·split
  ·exact h.eD _
  ·split
   ·exact h.turns _
   ·split
    ·split
     ·exact⟨h.g0,h.g1,h.f,h.sc,h.u,h.p,h.w,h.wr,h.v0,h.v1,h.o,h.tb⟩
     ·exact h
    ·exact h
theorem Fit.set1{s:TS}(h:s.Fit)(hi:s.Inv)(n:Int)(on:Bool):(s.set1 n on).Fit:=by
 unfold TS.set1;split
 ·have hi2:({s with origin:=on}:TS).Inv:=hi.upd rfl rfl rfl rfl rfl rfl rfl hi.row0 hi.iT hi.fU hi.gz hi.gN hi.tb hi.bot hi.sh;have htb:=hi.tb;have ht0:=hi.gN;cases on with
  |false=>
   refine⟨h.g0,h.g1,h.f,h.sc,h.u,h.p,?_,?_,h.v0,h.v1,?_,h.tb⟩
   all_goals (intro e;cases e)
  |true=>
   refine⟨h.g0,h.g1,h.f,h.sc,h.u,h.p,?_,?_,h.v0,h.v1,?_,h.tb⟩
   ·intro e;cases e
   ·intro e;cases e
   ·intro _;show s.top≤bn (s.top+0) s.top s.bottom∧bn (s.top+0) s.top s.bottom≤s.bottom;unfold bn;omega
 ·split
  ·exact⟨h.g0,h.g1,h.f,h.sc,h.u,h.p,fun e=>h.w (AB.1 e).1,fun e=>(AB.1 e).2,h.v0,h.v1,h.o,h.tb⟩
  ·split
   ·exact⟨h.g0,h.g1,h.f,h.sc,h.u,h.p,h.w,h.wr,h.v0,h.v1,h.o,h.tb⟩
   ·exact h
theorem Fit.sets(on:Bool)(l:List Int):∀{s:TS},s.Fit→s.Inv→(s.sets on l).Fit:=by
 induction l with
 |nil=>intro s h _;exact h
 |cons n l ih=>intro s h hi;exact ih (h.set1 hi n on) (hi.set1 n on)
theorem H6(s:TS)(f p q:Int):(s.move f p q).waits=s.waits:=by
 unfold TS.move
 repeat' split
 all_goals first|rfl|exact lu _ _
theorem Fit.sequence{s:TS}(h:s.Fit)(hi:s.Inv)(mk f:Int)(ps:List Int)(ct:Nat):(s.sequence mk f ps ct).Fit:=by
 unfold TS.sequence;split
 ·dsimp only;have k:(if mW f then s.aJ else s).Fit∧(if mW f then s.aJ else s).Inv∧(mW f=true→(if mW f then s.aJ else s).waits=false):=by
   split
   ·exact⟨h.aJ,hi.aJ,fun _=>rfl⟩
   ·rename_i e;exact⟨h,hi,fun q=>absurd q e⟩
  generalize (if mW f then s.aJ else s)=t at*;obtain⟨k1,k2,k3⟩:=k;exact((k1.move k2 f _ _ k3).edit (k2.move _ _ _) f _ (fun q=>by rw[H6];exact k3 q)).jo ((k2.move _ _ _).edit _ _) f ps ct
 ·split
  ·split
   ·exact Fit.sets _ _ h hi
   ·exact h
  ·exact h
theorem Fit.take{s:TS}(h:s.Fit)(hi:s.Inv)(ev:List Int)(he:ev.getD 0 0=1→Ce (ev.getD 1 0)):(s.take ev).Fit:=by
 unfold TS.take;split
 ·rename_i e;exact h.print hi (he e)
 ·repeat' split
  ·exact h.control hi _
  ·exact h.escape hi _ _
  ·exact h.sequence hi _ _ _ _
  ·exact h
end TS
structure RS.Sc (s:RS):Prop where
 m:s.m=0∨s.m=1∨s.m=2∨s.m=3
 v:0≤s.val
 a1:s.m=1→s.val≤17407∧¬(864≤s.val∧s.val<896)
 a2:s.m=2→s.val≤271∧(s.val=13→s.hi≤159)
 a3:s.m=3→s.val≤4∧(s.val=0→144≤s.lo)∧(s.val=4→s.hi≤143)
 b:s.m≠0→128≤s.lo∧s.hi≤191
theorem RS.Sc.zero:RS.zero.Sc:=⟨.inl rfl,by decide,by decide,by decide,by decide,by decide⟩
theorem Ri{r:RS}(h:lead b=some r):r.Sc:=by
 unfold lead at h
 repeat' split at h
 all_goals first|(cases h;done)|(cases h;refine⟨?_,?_,?_,?_,?_,?_⟩<;>dsimp only<;>omega)
theorem NW{s:RS}(h:s.Sc)(h0:0≤b):(s.sw b).1.Sc∧∀c∈(s.sw b).2,Ce c:=by
 unfold RS.sw;split
 ·refine⟨h,fun c hc=>?_⟩;rw[iM]at hc;subst hc;exact⟨h0,by omega,by omega⟩
 ·split
  ·rename_i r hr;exact⟨Ri hr,fun c hc=>by cases hc⟩
  ·refine⟨h,fun c hc=>?_⟩;rw[iM]at hc;subst hc;exact⟨by decide,by decide,by decide⟩
theorem RQ{s:RS}(h:s.Sc)(h0:0≤b)(h1:b<256):(s.take b).1.Sc∧∀c∈(s.take b).2,Ce c:=by
 unfold RS.take;split
 ·exact NW h h0
 ·rename_i hm;split
  ·have hf:s.fin.1.Sc∧∀c∈s.fin.2,Ce c:=by unfold RS.fin;rw[aG hm];refine⟨RS.Sc.zero,fun c hc=>?_⟩;rw[iM]at hc;subst hc;exact⟨by decide,by decide,by decide⟩
   have hb:=NW hf.1 h0;refine⟨hb.1,fun c hc=>?_⟩;rcases oq.1 hc with hc|hc
   ·exact hf.2 c hc
   ·exact hb.2 c hc
  ·rename_i hr;have hv:=h.v;have hb:=h.b hm;unfold RS.join;split
   ·rename_i h1;refine⟨RS.Sc.zero,fun c hc=>?_⟩;rw[iM]at hc;subst hc;have:=h.a1 h1;exact⟨by omega,by omega,by omega⟩
   ·rename_i h1;have hm2:=h.m;have a2:=h.a2;have a3:=h.a3;refine⟨⟨?_,?_,?_,?_,?_,?_⟩,fun c hc=>by cases hc⟩
    ·dsimp only;omega
    ·dsimp only;omega
    ·intro e;dsimp only at e ⊢;have:=a2 (by omega);omega
    ·intro e;dsimp only at e ⊢;have:=a3 (by omega);omega
    ·intro e;dsimp only at e;omega
    ·intro _;dsimp only;omega
def D9 (c:Int) (e:MS × List Int × Bool):Prop:=e.2.1.getD 0 0=1→e.2.1.getD 1 0=c
theorem gX(c:Int)(s:MS):D9 c (s,bG,false):=fun h=>absurd (show(0:Int)=1 from h) (by decide)
theorem EH(c:Int)(s:MS):D9 c (s.cO c):=by
 unfold MS.cO;split
 ·exact gX _ _
 ·split
  ·exact gX _ _
  ·split
   ·intro h;exact absurd (show(4:Int)=1 from h) (by decide)
   ·exact gX _ _
theorem OI(c:Int)(s:MS):D9 c (s.dz c):=by
 unfold MS.dz;split
 ·exact gX _ _
 ·split
  ·exact gX _ _
  ·split
   ·exact gX _ _
   ·split
    ·intro h;exact absurd (show(3:Int)=1 from h) (by decide)
    ·exact gX _ _
theorem OJ(c:Int)(s:MS):D9 c (s.bT c):=by
 unfold MS.bT;split
 ·intro _;rfl
 ·split
  ·exact OI _ _
  ·split
   ·split
    ·exact gX _ _
    ·exact EH _ _
   ·split
    ·exact EH _ _
    ·split
     ·split
      ·exact gX _ _
      ·exact gX _ _
     ·exact gX _ _
theorem ME(s:MS)(c:Int):D9 c (s.take c):=by
 unfold MS.take;split
 ·exact gX _ _
 ·split
  ·exact gX _ _
  ·split
   ·exact gX _ _
   ·split
    ·intro h;exact absurd (show(2:Int)=1 from h) (by decide)
    ·split
     ·exact OJ _ _
     ·exact gX _ _
theorem agM.Eu{x:agM}(h:x.t.Fit)(hi:x.t.Inv){c:Int}(hc:Ce c):(x.char c).t.Fit∧(x.char c).t.Inv:=by
 unfold agM.char;show TS.Fit (if _ then _ else _)∧TS.Inv (if _ then _ else _);split
 ·exact⟨h.take hi _ (fun e=>by rw[ME _ _ e];exact hc),hi.take _⟩
 ·exact⟨h,hi⟩
theorem agM.K4(l:List Int):∀{x:agM},x.t.Fit→x.t.Inv→(∀c∈l,Ce c)→(x.chars l).t.Fit∧(x.chars l).t.Inv:=by
 induction l with
 |nil=>intro x h hi _;exact⟨h,hi⟩
 |cons c l ih=>intro x h hi hl;exact ih (agM.Eu h hi (hl c (by simp))).1 (agM.Eu h hi (hl c (by simp))).2 (fun d hd=>hl d (by simp[hd]))
theorem agM.Oj(l:List Int):∀{x:agM},x.t.Fit→x.t.Inv→x.r.Sc→(∀b∈l,0≤b∧b<256)→(x.feed l).t.Fit∧(x.feed l).t.Inv:=by
 induction l with
 |nil=>intro x h hi _ _;exact⟨h,hi⟩
 |cons c l ih=>intro x h hi hr hl;have hc:=hl c (by simp);have ht:=RQ hr hc.1 hc.2;have k:=agM.K4 (x:=⟨(x.r.take c).1,x.m,x.t⟩) (x.r.take c).2 h hi ht.2;exact ih (x:=x.byte c) k.1 k.2 (by unfold agM.byte;rw[QO];exact ht.1) (fun d hd=>hl d (by simp[hd]))
theorem vK(r c:Nat)(hr:1≤r∧r≤12)(hc:1≤c∧c≤40)(l:List Int)(hl:∀b∈l,0≤b∧b<256):((agM.fresh r c).feed l).t.Fit:=(agM.Oj l (x:=agM.fresh r c) (TS.Fit.fresh hr) (TS.Inv.fresh hr hc) RS.Sc.zero hl).1

structure WS where
 tx:List Int
 pen:fO
def lg (n:Int):List Int:=if n<10 then[48+n]else[48+n / 10,48+n % 10]
def zh (a b:Int):List Int:=lg (a+1)++(59::lg (b+1))
def nL (p:fO):List Int:=
 (if p.b then[59,49]else[])++((if p.u then[59,52]else[])++((if p.t then[59,55]else[])++((if p.f≠0 then[59,51]++lg (p.f-1)else[])++(if p.k≠0 then[59,52]++lg (p.k-1)else[]))))
namespace WS
def zero:WS:=⟨[],Aa⟩
def put (w:WS) (l:List Int):WS:=⟨w.tx++l,w.pen⟩
def seq (w:WS) (l:List Int):WS:=w.put ([27,91]++l)
def place (w:WS) (r c:Int):WS:=w.seq (zh r c++[72])
def turn (w:WS) (p:fO):WS:=if p=w.pen then w else(⟨w.tx,p⟩:WS).seq (48::(nL p++[109]))
def cell (w:WS) (c:aC):WS:=if c.part=2 then w else(w.turn c.p).put (rH c.r)
def nC (w:WS) (row:Int) (k:Nat) (b c:aC):WS:=if c=aQ then w else(if b=aQ then w.place row k else w).cell c
def runs (row:Int):WS→Nat→aC→List aC→WS
 |w,_,_,[]=>w
 |w,k,b,c::l=>runs row (w.nC row k b c) (k+1) c l
def nN:WS→Nat→bK→WS
 |w,_,[]=>w
 |w,i,r::S=>nN (runs i w 0 aQ r) (i+1) S
def cellAt (S:bK) (r c:Int):aC:=(S.getD r.toNat []).getD c.toNat aQ
def aV (w:WS) (S:bK) (p:dQ) (row:Int):WS:=
 if(cellAt S p.row p.col).part=2 then(w.place row (p.col-1)).cell (cellAt S p.row (p.col-1))else(w.place row p.col).cell (cellAt S p.row p.col)
def pE (w:WS) (p:dQ):WS:=if p.origin then w.seq [63,54,104]else w
def qd (w:WS) (S:bK) (p:dQ) (row:Int):WS:=if p.waits then w.aV S p row else w.place row p.col
def qw (w:WS) (p:dQ):WS:=if p.first=1 then w.put [27,40,48]else w
def qy (w:WS) (p:dQ):WS:=if p.second=1 then w.put [27,41,48]else w
def rG (w:WS) (p:dQ):WS:=if p.use=1 then w.put [14]else w
def aP (w:WS) (S:bK) (p:dQ) (top:Int):WS:=
 ((((w.pE p).qd S p (if p.origin then p.row-top else p.row)).turn p.pen).qw p).qy p |>.rG p
def bk1 (w:WS) (p:dQ):WS:=if p.origin then w.seq [63,54,108]else w
def bk2 (w:WS) (p:dQ):WS:=if p.first=1 then w.put [27,40,66]else w
def A7 (w:WS) (p:dQ):WS:=if p.second=1 then w.put [27,41,66]else w
def Cg (w:WS) (p:dQ):WS:=if p.use=1 then w.put [15]else w
def bg (w:WS) (p:dQ):WS:=(((w.bk1 p).bk2 p).A7 p).Cg p
def saved (w:WS) (S:bK) (p:dQ):WS:=if p=je then w else((w.aP S p 0).put [27,55]).bg p
def screen (w:WS) (S:bK) (p:dQ):WS:=(w.nN 0 S).saved S p
def nY (S:bK):Bool:=S.all fun r=>r.all fun c=>decide (c=aQ)
def pO (S:bK) (p:dQ):Bool:=nY S&&decide (p=je)
def second (w:WS) (s:TS):WS:=if s.shown=1 then(w.seq [63,52,55,104]).screen s.s1 s.v1 else if pO s.s1 s.v1 then w else((w.seq [63,52,55,104]).screen s.s1 s.v1).seq [63,52,55,108]
def ek (w:WS) (s:TS):WS:=(w.screen s.s0 s.v0).second s
def Dn (w:WS) (k:Nat) (b:Bool):WS:=if b then(w.seq (lg ((k:Int)+1)++[71])).put [27,72]else w
def m_:WS→Nat→List Bool→WS
 |w,_,[]=>w
 |w,k,b::l=>m_ (w.Dn k b) (k+1) l
def uD (k:Nat):Bool:=decide (0<k∧k % 8=0)
def mZ:Nat→List Bool→Bool
 |_,[]=>true
 |k,b::l=>decide (b=uD k)&&mZ (k+1) l
def tabs (w:WS) (s:TS):WS:=if mZ 0 s.tabs then w else m_ (w.seq [51,103]) 0 s.tabs
def region (w:WS) (s:TS):WS:=if s.top≠0∨s.bottom≠(s.rows:Int)-1 then w.seq (zh s.top s.bottom++[114])else w
def jq (w:WS) (s:TS):WS:=if s.spot=je∧w.tx.length=0 then w else w.aP s.cur s.spot s.top
def xR (w:WS) (s:TS):WS:=if s.insert then w.seq [52,104]else w
def xS (w:WS) (s:TS):WS:=if s.wrap then w else w.seq [63,55,108]
def all (w:WS) (s:TS):WS:=(((((w.ek s).tabs s).region s).jq s).xR s).xS s
end WS
def A_ (s:TS):List Int:=(WS.zero.all s).tx
def jF (c n:Int):Int:=if c<0 then(-(c+1)) % n else c % n
theorem EZ(c n:Int)(w:World)(h0: -9223372036854775808≤c)(h1:c≤9223372036854775807)(hn:1≤n)(hn':n≤2000000):
 Calls prog 18 #[.int .i64 c,.int .i64 n] w fun e w'=>e= .returned (.int .i64 (jF c n))∧w=w':=by
 have hn0:(n==0)=false:=by simp;omega
 by_cases hc:c<0
 ·have He:Hid (jF c n= -(c+1).tmod n):=by show jF c n=_;unfold jF;rw[aS hc, ←Int.neg_tmod,Int.tmod_eq_emod_of_nonneg (by omega)]
  go_enter func18,ntmps18;go_wp2;go_ret;rw[He.o];exact⟨rfl,rfl⟩
 ·have He:Hid (jF c n=c % n):=by show jF c n=_;unfold jF;rw[aG hc]
  go_enter func18,ntmps18;go_wp2;go_ret;rw[He.o];exact⟨rfl,rfl⟩
theorem JN(l:List Int)(h:∀x∈l,0≤x∧x<256):bl (strOfNums l)=l:=by
 unfold bl;rw[strOfNums_data,List.map_map];induction l with
 |nil=>rfl
 |cons x l ih=>
  have hx:=h x (by simp);rw[List.map_cons,ih fun y hy=>h y (by simp[hy])]
  congr 1
  simp only[Function.comp,UInt8.toNat_ofNat'];omega
theorem iy(a b:ByteArray):bl (a++b)=bl a++bl b:=by unfold bl;simp
theorem Bl(l:List Int):(strOfNums l).size=l.length:=strOfNums_size l
end Go.Proofs.YtheibfffilomcabGreatDoor
