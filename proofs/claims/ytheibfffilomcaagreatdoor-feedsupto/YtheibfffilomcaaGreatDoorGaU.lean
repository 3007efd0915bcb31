import Derived.Test.YtheibfffilomcaaGreatDoorTmaU
import Derived.Test.YtheibfffilomcaaGreatDoorQaU
import Derived.Test.YtheibfffilomcaaGreatDoorRefU
import Derived.Laws.BytesArg
import Derived.Test.YtheibfffilomcaaGreatDoorEvbU
set_option linter.all false
namespace Go.Proofs.YtheibfffilomcaaGreatDoor
open Go.RowKit
variable {a ah n:Nat} {S:bS} {b:Int}
def zh (c:Int):Prop:=0≤c∧c≤1114111∧¬(55296≤c∧c≤57343)
def fO.Ok (p:fO):Prop:=0≤p.f∧p.f≤8∧0≤p.k∧p.k≤8
theorem yA:mO.Ok:=⟨by decide,by decide,by decide,by decide⟩
def aI.Ok (c:aI):Prop:=zh c.r∧c.p.Ok
theorem Be:aD.Ok:=⟨⟨by decide,by decide,by decide⟩,yA⟩
inductive eD:List aI→Prop
 |nil:eD []
 |one (c:aI) (r:List aI) (hp:c.part=0) (hw:j_ c.r=1) (hs:c.Ok) (h:eD r):eD (c::r)
 |two (c:aI) (r:List aI) (hp:c.part=1) (hw:j_ c.r=2) (hs:c.Ok) (h:eD r):eD (c::jQ c::r)
theorem eD.append{a b:List aI}(h:eD a)(k:eD b):eD (a++b):=by
 induction h with
 |nil=>exact k
 |one c r hp hw hs _ ih=>exact .one c _ hp hw hs ih
 |two c r hp hw hs _ ih=>exact .two c _ hp hw hs ih
theorem Sz:j_ 32=1:=by decide
theorem eD.blank(n:Nat):eD (List.replicate n aD):=by
 induction n with
 |zero=>exact .nil
 |succ n ih=>exact .one _ _ rfl Sz Be ih
theorem eD.head{r:List aI}(h:eD r)(d:aI)(hd:d.part≠2):(r.getD 0 d).part≠2:=by
 cases h with
 |nil=>exact hd
 |one c r hp _ _ _=>simp[hp]
 |two c r hp _ _ _=>simp[hp]
theorem eD.cut{r:List aI}(h:eD r):∀a,(eD (r.take a)∧eD (r.drop a))∨∃A c B,r=A++c::jQ c::B∧A.length+1=a∧eD A∧eD B:=by
 induction h with
 |nil=>intro a;left;simp;exact eD.nil
 |one c r hp hw hs h ih=>
  intro a;cases a with
  |zero=>left;exact⟨.nil,.one c r hp hw hs h⟩
  |succ a=>
   rcases ih a with⟨h1,h2⟩|⟨A,d,B,h1,h2,h3,h4⟩
   ·left;exact⟨.one c _ hp hw hs h1,h2⟩
   ·right;exact⟨c::A,d,B,by rw[h1];rfl,by simp[h2],.one c _ hp hw hs h3,h4⟩
 |two c r hp hw hs h ih=>
  intro a
  match a with
  | 0=>left;exact⟨.nil,.two c r hp hw hs h⟩
  | 1=>right;exact⟨[],c,r,rfl,rfl,.nil,h⟩
  |a+2=>
   rcases ih a with⟨h1,h2⟩|⟨A,d,B,h1,h2,h3,h4⟩
   ·left;exact⟨.two c _ hp hw hs h1,h2⟩
   ·right;exact⟨c::jQ c::A,d,B,by rw[h1];rfl,by simp[h2],.two c _ hp hw hs h3,h4⟩
theorem sG{r:List aI}(h:∀x,r[a]? =some x→x.part≠2):aJ r a=r:=by
 unfold aJ;rw[ai];rintro⟨_,h2,h3⟩;have:=h _ (eG h2);apply this;have e:r.getD a aD=r[a]:=by simp[List.getD,eG h2]
 rw[←e,h3];rfl
theorem vW(A:List aI)(c:aI)(B:List aI):aJ (A++c::jQ c::B) (A.length+1)=A++aD::aD::B:=by
 unfold aJ;rw[ak]
 ·simp
 ·refine⟨by omega,by simp,?_⟩;simp[List.getD]
theorem eD.at0{r:List aI}(h:eD r){x:aI}(hx:r[0]? =some x):x.part≠2:=by
 cases h with
 |nil=>simp at hx
 |one c r hp _ _ _=>simp at hx;subst hx;omega
 |two c r hp _ _ _=>simp at hx;subst hx;omega
theorem R9{r:List aI}(h:eD r)(ha:a≤r.length):∃P Q,aJ r a=P++Q∧P.length=a∧eD P∧eD Q:=by
 rcases h.cut a with⟨h1,h2⟩|⟨A,c,B,rfl,rfl,h3,h4⟩
 ·refine⟨r.take a,r.drop a,?_,by simp[ha],h1,h2⟩;rw[List.take_append_drop];apply sG;intro x hx;exact h2.at0 (x:=x) (by rw[rf];simpa using hx)
 ·refine⟨A++[aD],aD::B,?_,by simp,h3.append (.one _ _ rfl Sz Be .nil),.one _ _ rfl Sz Be h4⟩;rw[vW];simp
theorem Oj(P:List aI){Q:List aI}(h:eD Q)(k:Nat):aJ (P++Q) (P.length+k)=P++aJ Q k:=by
 rcases h.cut k with⟨h1,h2⟩|⟨A,c,B,rfl,rfl,h3,h4⟩
 ·have hq:∀x,Q[k]? =some x→x.part≠2:=fun x hx=>h2.at0 (x:=x) (by rw[rf];simpa using hx);rw[sG hq,sG];intro x hx;rw[og (by omega)]at hx;exact hq x (by simpa using hx)
 ·have e:P++(A++c::jQ c::B)=(P++A)++c::jQ c::B:=by simp
  rw[e,show P.length+(A.length+1)=(P++A).length+1 by simp;omega,vW,vW];simp
theorem Fw{r:List aI}(h:eD r){b:Nat}(hab:a≤b)(hb:b≤r.length):∃P M Q,aJ (aJ r a) b=P++(M++Q)∧P.length=a∧M.length=b-a∧eD P∧eD M∧eD Q:=by
 obtain⟨P,R,e,hp,g1,g2⟩:=R9 h (a:=a) (by omega);have hl:r.length=P.length+R.length:=by rw[←fU, ←e,aH]
 obtain⟨M,Q,e2,hm,g3,g4⟩:=R9 g2 (a:=b-a) (by omega);refine⟨P,M,Q,?_,hp,hm,g1,g3,g4⟩;rw[e,show b=P.length+(b-a) by omega,Oj P g2,e2]
theorem eD.clear{r:List aI}(h:eD r){b:Nat}(hab:a≤b)(hb:b≤r.length):eD (dP r a b):=by
 obtain⟨P,M,Q,e,h1,h2,h3,h4,h5⟩:=Fw h hab hb;unfold dP jv;rw[e];have e1:(P++(M++Q)).take a=P:=by rw[←h1];simp
 have e2:(P++(M++Q)).drop (a+(b-a))=Q:=by rw[←f_,show a+(b-a)=(P++M).length by simp;omega,List.drop_left]
 rw[e1,e2];exact h3.append ((eD.blank _).append h5)
theorem eD.put{r:List aI}(h:eD r){c:Int}{wd:Nat}(p:fO)(hs:zh c)(hp:p.Ok)(hw:j_ c=wd)(hwd:wd=1∨wd=2)(hb:a+wd≤r.length):eD (yC r a c wd p):=by
 obtain⟨P,M,Q,e,h1,h2,h3,h4,h5⟩:=Fw h (a:=a) (b:=a+wd) (by omega) hb;unfold yC;rw[e];subst h1;rcases hwd with rfl|rfl
 ·rw[ai (by decide)]
  match M,h2 with
  | [x],_=>simp;exact h3.append (.one _ _ rfl (by exact_mod_cast hw) ⟨hs,hp⟩ h5)
  | [],h2=>simp at h2
  |x::y::M,h2=>simp at h2
 ·rw[ak rfl]
  match M,h2 with
  | [x,y],_=>simp;exact h3.append (.two ⟨c,p,1⟩ _ rfl (by exact_mod_cast hw) ⟨hs,hp⟩ h5)
  | [],h2=>simp at h2
  | [x],h2=>simp at h2
  |x::y::z::M,h2=>simp at h2
theorem eD.ins{r:List aI}(h:eD r)(hb:a+n≤r.length):eD (wF r a n):=by
 obtain⟨P,M,Q,e,h1,h2,h3,h4,h5⟩:=Fw h (a:=a) (b:=r.length-n) (by omega) (by omega);have hl:r.length=P.length+(M.length+Q.length):=by rw[←fU, ←fU, ←e,aH,aH]
 unfold wF;rw[e];have e1:((P++(M++Q)).drop a).take (r.length-(a+n))=M:=by rw[←h1,List.drop_left,show r.length-(P.length+n)=M.length by omega,uu]
 rw[e1];unfold jZ;have e2:(P++(M++Q)).drop (a+n+M.length)=[]:=wL (by simp;omega);rw[e2,gp];unfold jv;have hT:((P++(M++Q)).take (a+n)).length=a+n:=by simp;omega
 have e3:((P++(M++Q)).take (a+n)++M).take a=P:=by rw[List.take_append_of_le_length (by omega),List.take_take,rT (by omega), ←h1,uu]
 have e4:((P++(M++Q)).take (a+n)++M).drop (a+n)=M:=by rw[List.drop_append,wL (by omega),hT];simp
 rw[e3,e4];exact h3.append ((eD.blank _).append h4)
theorem eD.rem{r:List aI}(h:eD r)(hb:a+n≤r.length):eD (wH r a n):=by
 obtain⟨P,M,Q,e,h1,h2,h3,h4,h5⟩:=Fw h (a:=a) (b:=a+n) (by omega) hb;have hl:r.length=P.length+(M.length+Q.length):=by rw[←fU, ←fU, ←e,aH,aH]
 unfold wH;rw[e];have e1:(P++(M++Q)).drop (a+n)=Q:=by rw[←f_,show a+n=(P++M).length by simp;omega,List.drop_left]
 rw[e1];unfold jZ jv;have e2:(P++(M++Q)).take a=P:=by rw[←h1,uu]
 rw[e2];have e3:(P++(Q++(P++(M++Q)).drop (a+Q.length))).take (r.length-n)=P++Q:=by rw[←f_,show r.length-n=(P++Q).length by simp;omega,uu]
 have e4:(P++(Q++(P++(M++Q)).drop (a+Q.length))).drop (r.length-n+n)=[]:=wL (by simp;omega);rw[e3,e4,gp];exact(h3.append h5).append (eD.blank _)
def GoodS (ah:Nat) (S:bS):Prop:=∀r∈S,eD r∧r.length=ah
theorem GoodS.set(h:GoodS ah S)(i:Nat){r:List aI}(hr:eD r∧r.length=ah):GoodS ah (S.set i r):=fun q hq=>by
 rcases List.mem_or_eq_of_mem_set hq with hq|rfl
 ·exact h q hq
 ·exact hr
theorem GoodS.getD(h:GoodS ah S){i:Nat}(hi:i<S.length):eD (S.getD i [])∧(S.getD i []).length=ah:=by
 have e:S.getD i []=S[i]:=by simp[List.getD,eG hi]
 rw[e];exact h _ (zW hi)
theorem GoodS.cK(h:GoodS ah S)(a i:Nat):GoodS ah (cK S a ah i):=by
 induction i with
 |zero=>exact h
 |succ i ih=>exact ih.set _ ⟨eD.blank _,by simp[iY]⟩
theorem GoodS.nX(h:GoodS ah S)(a n:Nat):∀i,a+i+n≤S.length→GoodS ah (nX S a n i):=by
 intro i;induction i with
 |zero=>intro _;exact h
 |succ i ih=>intro hi;exact(ih (by omega)).set _ ((ih (by omega)).getD (by rw[jO];omega))
theorem GoodS.iI(h:GoodS ah S)(a n len:Nat)(hl:a+len≤S.length):∀i,i+n≤len→GoodS ah (iI S a n len i):=by
 intro i;induction i with
 |zero=>intro _;exact h
 |succ i ih=>intro hi;exact(ih (by omega)).set _ ((ih (by omega)).getD (by rw[ja];omega))
theorem GoodS.up(h:GoodS ah S)(a len n:Nat)(hl:a+len≤S.length):GoodS ah (FX S a len n ah):=by
 unfold FX;refine GoodS.cK ?_ _ _;by_cases hn:n≤len
 ·exact h.nX a n _ (by omega)
 ·rw[show len-min n len=0 by omega];exact h
theorem GoodS.down(h:GoodS ah S)(a len n:Nat)(hl:a+len≤S.length):GoodS ah (oC S a len n ah):=by unfold oC;exact GoodS.cK (h.iI a _ len hl _ (by omega)) _ _
structure di.Fit (ah:Nat) (q:di):Prop where
 f:q.first=0∨q.first=1
 sc:q.second=0∨q.second=1
 u:q.use=0∨q.use=1
 p:q.pen.Ok
 w:q.waits=true→q.col=(ah:Int)-1
structure TS.Fit (s:TS):Prop where
 g0:GoodS s.ah s.s0
 g1:GoodS s.ah s.s1
 f:s.first=0∨s.first=1
 sc:s.second=0∨s.second=1
 u:s.use=0∨s.use=1
 p:s.pen.Ok
 w:s.waits=true→s.col=(s.ah:Int)-1
 wr:s.waits=true→s.wrap=true
 v0:s.v0.Fit s.ah
 v1:s.v1.Fit s.ah
 o:s.origin=true→s.top≤s.row∧s.row≤s.bottom
 tb:s.top<s.bottom∨s.rows=1
namespace TS
theorem Fit.setCur{s:TS}(h:s.Fit){S:bS}(hS:GoodS s.ah S):(s.setCur S).Fit:=by
 unfold TS.setCur;split
 ·exact⟨hS,h.g1,h.f,h.sc,h.u,h.p,h.w,h.wr,h.v0,h.v1,h.o,h.tb⟩
 ·exact⟨h.g0,hS,h.f,h.sc,h.u,h.p,h.w,h.wr,h.v0,h.v1,h.o,h.tb⟩
theorem Fit.cur{s:TS}(h:s.Fit):GoodS s.ah s.cur:=by
 unfold TS.cur;split
 ·exact h.g0
 ·exact h.g1
theorem Fit.aP{s:TS}(h:s.Fit)(hi:s.Inv):eD s.aP∧s.aP.length=s.ah:=h.cur.getD (by rw[hi.ql];have:=hi.row0;have:=hi.jK;omega)
theorem Fit.setRow{s:TS}(h:s.Fit){r:List aI}(hr:eD r∧r.length=s.ah):(s.aN r).Fit:=h.setCur (h.cur.set _ hr)
theorem Fit.aF{s:TS}(h:s.Fit):s.aF.Fit:=⟨h.g0,h.g1,h.f,h.sc,h.u,h.p,fun e=>(by cases e),fun e=>(by cases e),h.v0,h.v1,h.o,h.tb⟩
theorem Fit.bQ{s:TS}(h:s.Fit)(hw:s.waits=false)(c:Int):(s.bQ c).Fit:=⟨h.g0,h.g1,h.f,h.sc,h.u,h.p,fun e=>(by rw[show(s.bQ c).waits=s.waits from rfl,hw]at e;cases e),h.wr,h.v0,h.v1,h.o,h.tb⟩
theorem Fit.nD{s:TS}(h:s.Fit)(c:Int)(ho:s.origin=true→s.top≤c∧c≤s.bottom)(hi:s.Inv):(s.nD c).Fit:=by refine⟨h.g0,h.g1,h.f,h.sc,h.u,h.p,h.w,h.wr,h.v0,h.v1,fun e=>?_,h.tb⟩;have:=ho e;have:=hi.iO;have:=hi.bot;show s.top≤bg c 0 ((s.rows:Int)-1)∧bg c 0 ((s.rows:Int)-1)≤s.bottom;unfold bg;omega
theorem Fit.bJ{s:TS}(h:s.Fit)(c:Int)(hi:s.Inv):(s.bJ c).Fit:=by
 unfold TS.bJ;split
 ·refine⟨h.g0,h.g1,h.f,h.sc,h.u,h.p,h.w,h.wr,h.v0,h.v1,fun e=>?_,h.tb⟩;have:=hi.tb;show s.top≤bg _ _ _∧bg _ _ _≤s.bottom;unfold bg;omega
 ·rename_i ho;exact h.nD c (fun e=>absurd e (by simpa using ho)) hi
theorem pR(s:TS)(c:Int):(s.bJ c).waits=s.waits:=by unfold TS.bJ;split<;>rfl
theorem Fit.home{s:TS}(h:s.aF.Fit)(hi:s.Inv):s.home.Fit:=by
 have e:s.home=((s.aF).bJ 0).bQ 0:=by unfold TS.home TS.aF TS.bJ;split<;>rfl
 rw[e];exact(h.bJ 0 hi.aF).bQ (by rw[pR];rfl) 0
theorem Fit.rise{s:TS}(h:s.Fit)(n:Int)(hn:0≤n):(s.rise n).Fit:=by refine⟨h.g0,h.g1,h.f,h.sc,h.u,h.p,h.w,h.wr,h.v0,h.v1,fun e=>?_,h.tb⟩;have:=h.o e;show s.top≤max (s.row-n) (if s.top≤s.row then s.top else 0)∧max (s.row-n) (if s.top≤s.row then s.top else 0)≤s.bottom;rw[ak this.1];omega
theorem Fit.sink{s:TS}(h:s.Fit)(n:Int)(hn:0≤n):(s.sink n).Fit:=by refine⟨h.g0,h.g1,h.f,h.sc,h.u,h.p,h.w,h.wr,h.v0,h.v1,fun e=>?_,h.tb⟩;have:=h.o e;show s.top≤min (s.row+n) (if s.row≤s.bottom then s.bottom else(s.rows:Int)-1)∧min (s.row+n) (if s.row≤s.bottom then s.bottom else(s.rows:Int)-1)≤s.bottom;rw[ak this.2];omega
theorem Fit.gQ{s:TS}(h:s.Fit)(hi:s.Inv)(n:Nat):(s.gQ n).Fit:=h.setCur (h.cur.up _ _ _ (by rw[hi.ql];unfold TS.height;have:=hi.iO;have:=hi.tb;have:=hi.bot;omega))
theorem Fit.h_{s:TS}(h:s.Fit)(hi:s.Inv)(n:Nat):(s.h_ n).Fit:=h.setCur (h.cur.down _ _ _ (by rw[hi.ql];unfold TS.height;have:=hi.iO;have:=hi.tb;have:=hi.bot;omega))
theorem Fit.down{s:TS}(h:s.Fit)(hi:s.Inv):s.down.Fit:=by
 unfold TS.down;split
 ·exact h.gQ hi 1
 ·exact h.nD _ (fun e=>by have:=h.o e;omega) hi
theorem Fit.up{s:TS}(h:s.Fit)(hi:s.Inv):s.up.Fit:=by
 unfold TS.up;split
 ·exact h.h_ hi 1
 ·exact h.nD _ (fun e=>by have:=h.o e;omega) hi
theorem Fit.bE{s:TS}(h:s.Fit)(hi:s.Inv)(hw:s.waits=false):s.bE.Fit:=(h.bQ hw 0).down (hi.bQ 0)
theorem Fit.save{s:TS}(h:s.Fit):s.save.Fit:=by
 unfold TS.save;split
 ·exact⟨h.g0,h.g1,h.f,h.sc,h.u,h.p,h.w,h.wr,⟨h.f,h.sc,h.u,h.p,h.w⟩,h.v1,h.o,h.tb⟩
 ·exact⟨h.g0,h.g1,h.f,h.sc,h.u,h.p,h.w,h.wr,h.v0,⟨h.f,h.sc,h.u,h.p,h.w⟩,h.o,h.tb⟩
theorem Fit.saved{s:TS}(h:s.Fit):s.saved.Fit s.ah:=by
 unfold TS.saved;split
 ·exact h.v0
 ·exact h.v1
theorem Fit.restore{s:TS}(h:s.Fit)(hi:s.Inv):s.restore.Fit:=by
 have hv:=h.saved;unfold TS.restore TS.jf;refine⟨h.g0,h.g1,hv.f,hv.sc,hv.u,hv.p,fun e=>?_,fun e=>?_,h.v0,h.v1,fun e=>?_,h.tb⟩
 ·exact hv.w (by simpa using(C9.1 e).1)
 ·exact(C9.1 e).2
 ·have:=hi.tb;have e:s.saved.origin=true:=e;show s.top≤(if s.saved.origin=true then bg s.saved.row s.top s.bottom else s.saved.row)∧(if s.saved.origin=true then bg s.saved.row s.top s.bottom else s.saved.row)≤s.bottom;rw[ak e];unfold bg;omega
theorem J4(c:Int):j_ (mY c)=j_ c:=by
 unfold mY
 repeat' split
 all_goals first|rfl|(subst_vars;decide)
theorem Ns{c:Int}(h:zh c):zh (mY c):=by
 obtain⟨h1,h2,h3⟩:=h;unfold mY
 repeat' split
 all_goals first|exact⟨h1,h2,h3⟩|(refine⟨?_,?_,?_⟩<;>omega)
theorem R6(s:TS){c:Int}(h:zh c):zh (s.spelt c):=by
 unfold TS.spelt
 repeat' split
 all_goals first|exact Ns h|exact h
theorem Oi(s:TS)(c:Int):j_ (s.spelt c)=j_ c:=by
 unfold TS.spelt
 repeat' split
 all_goals first|rfl|exact J4 c
theorem lZ(s:TS)(S:bS):(s.setCur S).ah=s.ah∧(s.setCur S).col=s.col∧(s.setCur S).wrap=s.wrap∧(s.setCur S).waits=s.waits:=by unfold TS.setCur;split<;>exact⟨rfl,rfl,rfl,rfl⟩
theorem Fs(s:TS)(S:bS)(c:Int):(s.setCur S).spelt c=s.spelt c:=by unfold TS.setCur;split<;>rfl
theorem Fit.put{s:TS}(h:s.Fit)(hi:s.Inv)(c:Int)(wd:Nat)(hs:zh c)(hw:j_ c=wd)(hwd:wd=1∨wd=2)(hc:s.col+(wd:Int)≤(s.ah:Int)):(s.kG c wd).Fit:=by obtain⟨g,l⟩:=h.aP hi;have:=hi.jA;exact h.setRow ⟨g.put _ (R6 s hs) h.p (by rw[Oi];exact hw) hwd (by rw[l];omega),by rw[rD,l]⟩
theorem Fit.ins{s:TS}(h:s.Fit)(hi:s.Inv)(wd:Nat):(s.aN (jd s.aP s.col.toNat wd)).Fit:=by obtain⟨g,l⟩:=h.aP hi;have:=hi.jA;have:=hi.jD;refine h.setRow ⟨?_,by rw[lW _ _ _ (by rw[l];omega),l]⟩;unfold jd;exact g.ins (by rw[l];omega)
theorem Fit.rem{s:TS}(h:s.Fit)(hi:s.Inv)(wd:Nat):(s.aN (jT s.aP s.col.toNat wd)).Fit:=by obtain⟨g,l⟩:=h.aP hi;have:=hi.jA;have:=hi.jD;refine h.setRow ⟨?_,by rw[qP _ _ _ (by rw[l];omega),l]⟩;unfold jT;exact g.rem (by rw[l];omega)
theorem Fit.OJ{s:TS}(h:s.Fit)(hi:s.Inv)(a b:Nat)(hab:a≤b)(hb:b≤s.ah):(s.aN (dP s.aP a b)).Fit:=by obtain⟨g,l⟩:=h.aP hi;exact h.setRow ⟨g.clear hab (by omega),by rw[kP _ _ _ (by omega) hab,l]⟩
theorem Fit.step{s:TS}(h:s.Fit)(hi:s.Inv)(wd:Nat):(s.step wd).Fit:=by
 refine⟨h.g0,h.g1,h.f,h.sc,h.u,h.p,fun e=>?_,fun e=>?_,h.v0,h.v1,h.o,h.tb⟩
 ·have:=pV (C9.1 e).2;have:=hi.c1;show bg (s.col+(wd:Int)) 0 ((s.ah:Int)-1)=(s.ah:Int)-1;unfold bg;omega
 ·exact(C9.1 e).1
theorem Fit.fo{s:TS}(h:s.Fit)(hi:s.Inv)(c:Int)(wd:Nat)(hs:zh c)(hw:j_ c=wd)(hwd:wd=1∨wd=2)(hc:s.col+(wd:Int)≤(s.ah:Int)):(s.fo c wd).Fit:=by
 unfold TS.fo;have k:(if s.insert then s.kV wd else s).Fit∧(if s.insert then s.kV wd else s).Inv∧(if s.insert then s.kV wd else s).ah=s.ah∧(if s.insert then s.kV wd else s).col=s.col:=by
  split
  ·exact⟨h.ins hi wd,hi.aN _,(lZ _ _).1,(lZ _ _).2.1⟩
  ·exact⟨h,hi,rfl,rfl⟩
 obtain⟨k1,k2,k3,k4⟩:=k;exact(k1.put k2 c wd hs hw hwd (by rw[k3,k4];exact hc)).step (k2.aN _) wd
theorem Fit.gH{s:TS}(h:s.Fit)(hi:s.Inv):s.gH.Fit∧s.gH.waits=false:=by
 unfold TS.gH;split
 ·refine⟨h.aF.bE hi.aF rfl,?_⟩;unfold TS.bE TS.down;split
  ·unfold TS.gQ;rw[(lZ _ _).2.2.2];rfl
  ·rfl
 ·rename_i hw;exact⟨h,by simpa using hw⟩
theorem E9(s:TS)(hi:s.Inv):s.bE.col=0∧s.bE.ah=s.ah:=by
 have:=hi.c1;have e:(s.bQ 0).col=0:=by show bg 0 0 ((s.ah:Int)-1)=0;unfold bg;omega
 unfold TS.bE TS.down;split
 ·unfold TS.gQ;rw[(lZ _ _).2.1,(lZ _ _).1];exact⟨e,rfl⟩
 ·exact⟨e,rfl⟩
theorem Fit.print{s:TS}(h:s.Fit)(hi:s.Inv){c:Int}(hs:zh c):(s.print c (j_ c).toNat).Fit:=by
 have hb:=uk c;obtain⟨wd,hwd⟩:∃wd:Nat,(j_ c).toNat=wd:=⟨_,rfl⟩;have hw:j_ c=(wd:Int):=by omega
 rw[hwd];unfold TS.print;obtain⟨p1,p2⟩:=h.gH hi;have ec:s.gH.ah=s.ah:=by have:=JG s;exact congrArg Prod.snd this
 split
 ·exact h
 ·rename_i hz;split
  ·split
   ·obtain⟨e1,e2⟩:=E9 s.gH hi.gH;exact(p1.bE hi.gH p2).fo hi.gH.bE c wd hs hw (by omega) (by rw[e1,e2,ec];omega)
   ·exact p1
  ·exact p1.fo hi.gH c wd hs hw (by omega) (by rw[ec];omega)
theorem Fit.control{s:TS}(h:s.Fit)(hi:s.Inv)(c:Int):(s.control c).Fit:=by
 unfold TS.control;dsimp only;by_cases hc:8≤c∧c≤13
 ·rw[ak hc];have h:=h.aF;have hi:=hi.aF
  repeat' split
  ·exact h.bQ rfl _
  ·exact h.bQ rfl _
  ·exact h.down hi
  ·exact h.bQ rfl _
  ·omega
  ·omega
  ·exact h
 ·rw[ai hc]
  repeat' split
  ·omega
  ·omega
  ·omega
  ·omega
  ·exact⟨h.g0,h.g1,h.f,h.sc,.inr rfl,h.p,h.w,h.wr,h.v0,h.v1,h.o,h.tb⟩
  ·exact⟨h.g0,h.g1,h.f,h.sc,.inl rfl,h.p,h.w,h.wr,h.v0,h.v1,h.o,h.tb⟩
  ·exact h
theorem Fit.fresh{rows ah:Nat}(hr:1≤rows∧rows≤12):(TS.fresh rows ah).Fit:=by
 have g:GoodS ah (List.replicate rows (iY ah)):=fun r hr=>by rw[(AJ hr)];exact⟨eD.blank _,by simp[iY]⟩
 exact⟨g,g,.inl rfl,.inl rfl,.inl rfl,yA,fun e=>(by cases e),fun e=>(by cases e),⟨.inl rfl,.inl rfl,.inl rfl,yA,fun e=>(by cases e)⟩,⟨.inl rfl,.inl rfl,.inl rfl,yA,fun e=>(by cases e)⟩,fun e=>(by cases e),by show(0:Int)<(rows:Int)-1∨rows=1;omega⟩
theorem Fit.bare{s:TS}(h:s.Fit)(hi:s.Inv)(f:Int):(s.bare f).Fit:=by
 unfold TS.bare
 repeat' split
 ·exact h.save
 ·exact h.restore hi
 ·exact h.aF.down hi.aF
 ·exact h.aF.up hi.aF
 ·exact h.aF.bE hi.aF rfl
 ·exact⟨h.g0,h.g1,h.f,h.sc,h.u,h.p,h.w,h.wr,h.v0,h.v1,h.o,h.tb⟩
 ·exact Fit.fresh ⟨hi.r1,hi.r2⟩
 ·exact h
theorem aaS(f b:Int)(h:b=0∨b=1):dQ f b=0∨dQ f b=1:=by
 unfold dQ
 repeat' split
 ·exact .inl rfl
 ·exact .inr rfl
 ·exact h
theorem Fit.escape{s:TS}(h:s.Fit)(hi:s.Inv)(mk f:Int):(s.escape mk f).Fit:=by
 unfold TS.escape
 repeat' split
 ·exact h.bare hi f
 ·exact⟨h.g0,h.g1,aaS _ _ h.f,h.sc,h.u,h.p,h.w,h.wr,h.v0,h.v1,h.o,h.tb⟩
 ·exact⟨h.g0,h.g1,h.f,aaS _ _ h.sc,h.u,h.p,h.w,h.wr,h.v0,h.v1,h.o,h.tb⟩
 ·exact h
theorem xN(n:Int):1≤times n:=by unfold times;omega
theorem Fit.move{s:TS}(h:s.Fit)(hi:s.Inv)(f p0 p1:Int)(hw:mZ f=true→s.waits=false):(s.move f p0 p1).Fit:=by
 have ht:=xN p0;unfold TS.move;split
 ·exact h.rise _ (by omega)
 ·split
  ·exact h.sink _ (by omega)
  ·split
   ·rename_i e;subst e;exact h.bQ (hw (by decide)) _
   ·split
    ·rename_i e;subst e;exact h.bQ (hw (by decide)) _
    ·split
     ·rename_i e;subst e;exact h.bQ (hw (by decide)) _
     ·split
      ·exact h.bJ _ hi
      ·split
       ·rename_i e;have hw2:s.waits=false:=by rcases e with rfl|rfl<;>exact hw (by decide)
        exact(h.bJ _ hi).bQ (by rw[pR];exact hw2) _
       ·exact h
theorem Fit.dD{s:TS}(h:s.Fit)(hi:s.Inv)(n:Int):(s.dD n).Fit:=by
 have:=hi.jA;have:=hi.jD;unfold TS.dD
 repeat' split
 ·exact h.OJ hi _ _ (by omega) (by omega)
 ·exact h.OJ hi _ _ (by omega) (by omega)
 ·exact h.OJ hi _ _ (by omega) (by omega)
 ·exact h
theorem Fit.dY{s:TS}(h:s.Fit)(n:Int):(s.dY n).Fit:=by
 unfold TS.dY
 repeat' split
 ·exact h.setCur (h.cur.cK _ _)
 ·exact h.setCur (h.cur.cK _ _)
 ·exact h.setCur (h.cur.cK _ _)
 ·exact h
theorem Fit.edit{s:TS}(h:s.Fit)(hi:s.Inv)(f p:Int)(hw:mZ f=true→s.waits=false):(s.edit f p).Fit:=by
 have:=hi.jA;have:=hi.jD;have:=hi.row0;have:=hi.bot;unfold TS.edit;dsimp only;split
 ·exact(h.dD hi _).dY _
 ·split
  ·exact h.dD hi _
  ·split
   ·exact h.ins hi _
   ·split
    ·exact h.rem hi _
    ·split
     ·exact h.OJ hi _ _ (by omega) (by omega)
     ·split
      ·rename_i e;subst e;split
       ·rename_i hr;have hr:=pV hr;exact(h.setCur (h.cur.down _ _ _ (by rw[hi.ql];unfold TS.below;omega))).bQ (by rw[(lZ _ _).2.2.2];exact hw (by decide)) 0
       ·exact h
      ·split
       ·rename_i e;subst e;split
        ·rename_i hr;have hr:=pV hr;exact(h.setCur (h.cur.up _ _ _ (by rw[hi.ql];unfold TS.below;omega))).bQ (by rw[(lZ _ _).2.2.2];exact hw (by decide)) 0
        ·exact h
       ·split
        ·exact h.gQ hi _
        ·split
         ·exact h.h_ hi _
         ·exact h
theorem Fit.gU{s:TS}(h:s.Fit)(hi:s.Inv)(top bottom:Int)(h0:0≤top):(s.gU top bottom).Fit:=by
 unfold TS.gU;dsimp only;generalize hb:(if bottom<0∨(s.rows:Int)-1<bottom then(s.rows:Int)-1 else bottom)=b;have hb2:b<(s.rows:Int):=by rw[←hb];have:=hi.r1;split<;>omega
 split
 ·exact h
 ·rename_i hlt;have hi2:({s with top:=top,bottom:=b}:TS).Inv:=hi.upd rfl rfl rfl rfl rfl rfl rfl hi.row0 hi.jK hi.jA hi.jD h0 (by show top≤b;omega) hb2 hi.sh;have e:({s with top:=top,bottom:=b}:TS).home=(({s with top:=top,bottom:=b}:TS).aF.bJ 0).bQ 0:=by unfold TS.home TS.aF TS.bJ;split<;>rfl
  rw[e];have hb1:({s with top:=top,bottom:=b}:TS).bottom=b:=rfl;refine⟨?_,?_,?_,?_,?_,?_,?_,?_,?_,?_,?_,?_⟩
  all_goals (unfold TS.bJ;split)
  ·exact h.g0
  ·exact h.g0
  ·exact h.g1
  ·exact h.g1
  ·exact h.f
  ·exact h.f
  ·exact h.sc
  ·exact h.sc
  ·exact h.u
  ·exact h.u
  ·exact h.p
  ·exact h.p
  ·intro e;cases e
  ·intro e;cases e
  ·intro e;cases e
  ·intro e;cases e
  ·exact h.v0
  ·exact h.v0
  ·exact h.v1
  ·exact h.v1
  ·intro _;show top≤bg (top+0) top b∧bg (top+0) top b≤b;unfold bg;omega
  ·rename_i ho;intro e;exact absurd e ho
  ·exact .inl (by show top<b;omega)
  ·exact .inl (by show top<b;omega)
theorem Fit.fM{s:TS}(h:s.Fit)(n:Int):(s.fM n).Fit:=by
 unfold TS.fM
 repeat' split
 ·exact⟨h.g0,h.g1,h.f,h.sc,h.u,h.p,h.w,h.wr,h.v0,h.v1,h.o,h.tb⟩
 ·exact⟨h.g0,h.g1,h.f,h.sc,h.u,h.p,h.w,h.wr,h.v0,h.v1,h.o,h.tb⟩
 ·exact h
theorem VA{p:fO}(h:p.Ok)(n:Int):(turn p n).Ok:=by
 obtain⟨h1,h2,h3,h4⟩:=h;unfold turn
 repeat' split
 all_goals first|exact yA|exact⟨h1,h2,h3,h4⟩|(refine⟨?_,?_,?_,?_⟩<;>dsimp only<;>omega)
theorem Fit.turns(l:List Int):∀{s:TS},s.Fit→(s.turns l).Fit:=by
 induction l with
 |nil=>intro s h;exact h
 |cons n l ih=>intro s h;exact ih (s:={s with pen:=turn s.pen (amount n)}) ⟨h.g0,h.g1,h.f,h.sc,h.u,VA h.p _,h.w,h.wr,h.v0,h.v1,h.o,h.tb⟩
theorem Fit.kC{s:TS}(h:s.Fit)(hi:s.Inv)(f:Int)(ps:List Int)(ct:Nat):(s.kC f ps ct).Fit:=by
 have:=xN (ps.getD 0 0);unfold TS.kC;split
 ·exact h.gU hi _ _ (by omega)
 ·split
  ·exact h.fM _
  ·split
   ·exact h.turns _
   ·split
    ·split
     ·exact⟨h.g0,h.g1,h.f,h.sc,h.u,h.p,h.w,h.wr,h.v0,h.v1,h.o,h.tb⟩
     ·exact h
    ·exact h
theorem Fit.set1{s:TS}(h:s.Fit)(hi:s.Inv)(n:Int)(on:Bool):(s.set1 n on).Fit:=by
 unfold TS.set1;split
 ·have hi2:({s with origin:=on}:TS).Inv:=hi.upd rfl rfl rfl rfl rfl rfl rfl hi.row0 hi.jK hi.jA hi.jD hi.iO hi.tb hi.bot hi.sh;have htb:=hi.tb;have ht0:=hi.iO;cases on with
  |false=>
   refine⟨h.g0,h.g1,h.f,h.sc,h.u,h.p,?_,?_,h.v0,h.v1,?_,h.tb⟩
   all_goals (intro e;cases e)
  |true=>
   refine⟨h.g0,h.g1,h.f,h.sc,h.u,h.p,?_,?_,h.v0,h.v1,?_,h.tb⟩
   ·intro e;cases e
   ·intro e;cases e
   ·intro _;show s.top≤bg (s.top+0) s.top s.bottom∧bg (s.top+0) s.top s.bottom≤s.bottom;unfold bg;omega
 ·split
  ·exact⟨h.g0,h.g1,h.f,h.sc,h.u,h.p,fun e=>h.w (C9.1 e).1,fun e=>(C9.1 e).2,h.v0,h.v1,h.o,h.tb⟩
  ·split
   ·exact⟨h.g0,h.g1,h.f,h.sc,h.u,h.p,h.w,h.wr,h.v0,h.v1,h.o,h.tb⟩
   ·exact h
theorem Fit.sets(on:Bool)(l:List Int):∀{s:TS},s.Fit→s.Inv→(s.sets on l).Fit:=by
 induction l with
 |nil=>intro s h _;exact h
 |cons n l ih=>intro s h hi;exact ih (h.set1 hi n on) (hi.set1 n on)
theorem J8(s:TS)(f p q:Int):(s.move f p q).waits=s.waits:=by
 unfold TS.move
 repeat' split
 all_goals first|rfl|exact pR _ _
theorem Fit.sequence{s:TS}(h:s.Fit)(hi:s.Inv)(mk f:Int)(ps:List Int)(ct:Nat):(s.sequence mk f ps ct).Fit:=by
 unfold TS.sequence;split
 ·dsimp only;have k:(if mZ f then s.aF else s).Fit∧(if mZ f then s.aF else s).Inv∧(mZ f=true→(if mZ f then s.aF else s).waits=false):=by
   split
   ·exact⟨h.aF,hi.aF,fun _=>rfl⟩
   ·rename_i e;exact⟨h,hi,fun q=>absurd q e⟩
  generalize (if mZ f then s.aF else s)=t at*;obtain⟨k1,k2,k3⟩:=k;exact((k1.move k2 f _ _ k3).edit (k2.move _ _ _) f _ (fun q=>by rw[J8];exact k3 q)).kC ((k2.move _ _ _).edit _ _) f ps ct
 ·split
  ·split
   ·exact Fit.sets _ _ h hi
   ·exact h
  ·exact h
theorem Fit.take{s:TS}(h:s.Fit)(hi:s.Inv)(ev:List Int)(he:ev.getD 0 0=1→zh (ev.getD 1 0)):(s.take ev).Fit:=by
 unfold TS.take;split
 ·rename_i e;exact h.print hi (he e)
 ·repeat' split
  ·exact h.control hi _
  ·exact h.escape hi _ _
  ·exact h.sequence hi _ _ _ _
  ·exact h
end TS
structure RS.Sc (s:RS):Prop where
 m:s.m=0∨s.m=1∨s.m=2∨s.m=3
 v:0≤s.val
 a1:s.m=1→s.val≤17407∧¬(864≤s.val∧s.val<896)
 a2:s.m=2→s.val≤271∧(s.val=13→s.hi≤159)
 a3:s.m=3→s.val≤4∧(s.val=0→144≤s.lo)∧(s.val=4→s.hi≤143)
 b:s.m≠0→128≤s.lo∧s.hi≤191
theorem RS.Sc.zero:RS.zero.Sc:=⟨.inl rfl,by decide,by decide,by decide,by decide,by decide⟩
theorem U6{r:RS}(h:lead b=some r):r.Sc:=by
 unfold lead at h
 repeat' split at h
 all_goals first|(cases h;done)|(cases h;refine⟨?_,?_,?_,?_,?_,?_⟩<;>dsimp only<;>omega)
theorem P7{s:RS}(h:s.Sc)(h0:0≤b):(s.uC b).1.Sc∧∀c∈(s.uC b).2,zh c:=by
 unfold RS.uC;split
 ·refine⟨h,fun c hc=>?_⟩;rw[jg]at hc;subst hc;exact⟨h0,by omega,by omega⟩
 ·split
  ·rename_i r hr;exact⟨U6 hr,fun c hc=>by cases hc⟩
  ·refine⟨h,fun c hc=>?_⟩;rw[jg]at hc;subst hc;exact⟨by decide,by decide,by decide⟩
theorem Ml{s:RS}(h:s.Sc)(h0:0≤b)(h1:b<256):(s.take b).1.Sc∧∀c∈(s.take b).2,zh c:=by
 unfold RS.take;split
 ·exact P7 h h0
 ·rename_i hm;split
  ·have hf:s.fin.1.Sc∧∀c∈s.fin.2,zh c:=by unfold RS.fin;rw[ai hm];refine⟨RS.Sc.zero,fun c hc=>?_⟩;rw[jg]at hc;subst hc;exact⟨by decide,by decide,by decide⟩
   have hb:=P7 hf.1 h0;refine⟨hb.1,fun c hc=>?_⟩;rcases nM.1 hc with hc|hc
   ·exact hf.2 c hc
   ·exact hb.2 c hc
  ·rename_i hr;have hv:=h.v;have hb:=h.b hm;unfold RS.join;split
   ·rename_i h1;refine⟨RS.Sc.zero,fun c hc=>?_⟩;rw[jg]at hc;subst hc;have:=h.a1 h1;exact⟨by omega,by omega,by omega⟩
   ·rename_i h1;have hm2:=h.m;have a2:=h.a2;have a3:=h.a3;refine⟨⟨?_,?_,?_,?_,?_,?_⟩,fun c hc=>by cases hc⟩
    ·dsimp only;omega
    ·dsimp only;omega
    ·intro e;dsimp only at e ⊢;have:=a2 (by omega);omega
    ·intro e;dsimp only at e ⊢;have:=a3 (by omega);omega
    ·intro e;dsimp only at e;omega
    ·intro _;dsimp only;omega

structure WS where
 tx:List Int
 pen:fO
def jB (n:Int):List Int:=if n<10 then[48+n]else[48+n / 10,48+n % 10]
def lY (a b:Int):List Int:=jB (a+1)++(59::jB (b+1))
def oD (p:fO):List Int:=
 (if p.b then[59,49]else[])++((if p.u then[59,52]else[])++((if p.t then[59,55]else[])++((if p.f≠0 then[59,51]++jB (p.f-1)else[])++(if p.k≠0 then[59,52]++jB (p.k-1)else[]))))
namespace WS
def zero:WS:=⟨[],mO⟩
def put (w:WS) (l:List Int):WS:=⟨w.tx++l,w.pen⟩
def seq (w:WS) (l:List Int):WS:=w.put ([27,91]++l)
def place (w:WS) (r c:Int):WS:=w.seq (lY r c++[72])
def turn (w:WS) (p:fO):WS:=if p=w.pen then w else(⟨w.tx,p⟩:WS).seq (48::(oD p++[109]))
def cell (w:WS) (c:aI):WS:=if c.part=2 then w else(w.turn c.p).put (oP c.r)
def jL (w:WS) (row:Int) (k:Nat) (b c:aI):WS:=if c=aD then w else(if b=aD then w.place row k else w).cell c
def runs (row:Int):WS→Nat→aI→List aI→WS
 |w,_,_,[]=>w
 |w,k,b,c::l=>runs row (w.jL row k b c) (k+1) c l
def fu:WS→Nat→bS→WS
 |w,_,[]=>w
 |w,i,r::S=>fu (runs i w 0 aD r) (i+1) S
def cellAt (S:bS) (r c:Int):aI:=(S.getD r.toNat []).getD c.toNat aD
def bP (w:WS) (S:bS) (p:di) (row:Int):WS:=
 if(cellAt S p.row p.col).part=2 then(w.place row (p.col-1)).cell (cellAt S p.row (p.col-1))else(w.place row p.col).cell (cellAt S p.row p.col)
def q9 (w:WS) (p:di):WS:=if p.origin then w.seq [63,54,104]else w
def rH (w:WS) (S:bS) (p:di) (row:Int):WS:=if p.waits then w.bP S p row else w.place row p.col
def rQ (w:WS) (p:di):WS:=if p.first=1 then w.put [27,40,48]else w
def sK (w:WS) (p:di):WS:=if p.second=1 then w.put [27,41,48]else w
def sU (w:WS) (p:di):WS:=if p.use=1 then w.put [14]else w
def aZ (w:WS) (S:bS) (p:di) (top:Int):WS:=
 ((((w.q9 p).rH S p (if p.origin then p.row-top else p.row)).turn p.pen).rQ p).sK p |>.sU p
def bk1 (w:WS) (p:di):WS:=if p.origin then w.seq [63,54,108]else w
def bk2 (w:WS) (p:di):WS:=if p.first=1 then w.put [27,40,66]else w
def y_ (w:WS) (p:di):WS:=if p.second=1 then w.put [27,41,66]else w
def zn (w:WS) (p:di):WS:=if p.use=1 then w.put [15]else w
def bW (w:WS) (p:di):WS:=(((w.bk1 p).bk2 p).y_ p).zn p
def saved (w:WS) (S:bS) (p:di):WS:=if p=aY then w else((w.aZ S p 0).put [27,55]).bW p
def screen (w:WS) (S:bS) (p:di):WS:=(w.fu 0 S).saved S p
def oM (S:bS):Bool:=S.all fun r=>r.all fun c=>decide (c=aD)
def nQ (S:bS) (p:di):Bool:=oM S&&decide (p=aY)
def second (w:WS) (s:TS):WS:=if s.shown=1 then(w.seq [63,52,55,104]).screen s.s1 s.v1 else if nQ s.s1 s.v1 then w else((w.seq [63,52,55,104]).screen s.s1 s.v1).seq [63,52,55,108]
def fV (w:WS) (s:TS):WS:=(w.screen s.s0 s.v0).second s
def uE (w:WS) (k:Nat) (b:Bool):WS:=if b then(w.seq (jB ((k:Int)+1)++[71])).put [27,72]else w
def l_:WS→Nat→List Bool→WS
 |w,_,[]=>w
 |w,k,b::l=>l_ (w.uE k b) (k+1) l
def nR (k:Nat):Bool:=decide (0<k∧k % 8=0)
def lg:Nat→List Bool→Bool
 |_,[]=>true
 |k,b::l=>decide (b=nR k)&&lg (k+1) l
def tabs (w:WS) (s:TS):WS:=if lg 0 s.tabs then w else l_ (w.seq [51,103]) 0 s.tabs
def region (w:WS) (s:TS):WS:=if s.top≠0∨s.bottom≠(s.rows:Int)-1 then w.seq (lY s.top s.bottom++[114])else w
def lM (w:WS) (s:TS):WS:=if s.spot=aY∧w.tx.length=0 then w else w.aZ s.cur s.spot s.top
def zK (w:WS) (s:TS):WS:=if s.insert then w.seq [52,104]else w
def zL (w:WS) (s:TS):WS:=if s.wrap then w else w.seq [63,55,108]
def all (w:WS) (s:TS):WS:=(((((w.fV s).tabs s).region s).lM s).zK s).zL s
end WS
theorem aL(a b:ByteArray):bl (a++b)=bl a++bl b:=by unfold bl;simp
end Go.Proofs.YtheibfffilomcaaGreatDoor
