import Derived.Test.YtheibfffilomcaaGreatDoorTmaU
import Derived.Test.YtheibfffilomcaaGreatDoorUhU
set_option linter.all false
namespace Go.Proofs.YtheibfffilomcaaGreatDoor
namespace DT
def to (d:DT) (r c:Int):DT:=d.sc fun t=>{t with col:=wi c 0 ((t.ah:Int)-1),row:=if t.origin then wi (t.top+r) t.top t.bottom else wi r 0 ((t.rows:Int)-1),waits:=false}
theorem qI(s:TS)(r:Int):s.bJ r= {s with row:=if s.origin then TS.bg (s.top+r) s.top s.bottom else TS.bg r 0 ((s.rows:Int)-1)}:=by
 unfold TS.bJ TS.nD;by_cases h:s.origin=true
 ·rw[ak h,ak h]
 ·rw[ai h,ai h]
theorem Ew(d:DT)(r c:Int):(d.to r c).abs=((d.abs.bJ r).bQ c).aF:=by rw[qI];unfold to TS.bQ TS.aF;simp only[vF];rfl
def mv (d:DT) (r c:Int):DT:=d.sc fun t=>{t with row:=wi r 0 ((t.rows:Int)-1),col:=wi c 0 ((t.ah:Int)-1),waits:=false}
def qZ (f:Int):Bool:=decide (f=65∨f=66∨f=67∨f=68∨f=71∨f=100∨f=72∨f=102)
def moves (d:DT) (f n m:Int):DT:=
 if f=65 then d.mv (if d.t.top≤d.t.row∧d.t.row-n<d.t.top then d.t.top else d.t.row-n) d.t.col
 else if f=66 then d.mv (if d.t.row≤d.t.bottom∧d.t.bottom<d.t.row+n then d.t.bottom else d.t.row+n) d.t.col
 else if f=67 then d.mv d.t.row (d.t.col+n)else if f=68 then d.mv d.t.row (d.t.col-n)else if f=71 then d.mv d.t.row (n-1)
 else if f=100 then d.to (n-1) d.t.col else if f=72∨f=102 then d.to (n-1) (m-1)else d
theorem J_(d:DT)(r c:Int):(d.mv r c).abs= {d.abs with row:=TS.bg r 0 ((d.t.rows:Int)-1),col:=TS.bg c 0 ((d.t.ah:Int)-1),waits:=false}:=by unfold mv;simp only[vF];rfl
theorem Ka(d:DT)(h:d.Ok)(c:Int):(d.mv d.t.row c).abs=d.abs.aF.bQ c:=by
 have a1:=h.inv.r1;have a3:=h.inv.row0;have a4:=h.inv.jK;have e1:d.abs.rows=d.t.rows:=rfl;have e3:d.abs.row=d.t.row:=rfl;have v:TS.bg d.t.row 0 ((d.t.rows:Int)-1)=d.t.row:=by unfold TS.bg;omega
 rw[J_,v];rfl
theorem Rh{d:DT}(h:d.Ok)(f p q:Int)(hf:qZ f=true):(d.moves f (TS.times p) (TS.times q)).Ok∧(d.moves f (TS.times p) (TS.times q)).abs=d.abs.aF.move f p q:=by
 have hi:=h.inv.aF.move f p q;have hft:=h.fit.aF.move h.inv.aF f p q (fun _=>rfl);have hst:∀e:DT,e.abs=d.abs.aF.move f p q→e.d0=d.d0→e.d1=d.d1→e.tb=d.tb→e.ids=d.ids→e.t.ah=d.t.ah→e.Ok∧e.abs=d.abs.aF.move f p q:=fun e ha a b c' d' e'=>h.of ha hi hft a b c' d' e';have hn:=TS.xN p;have a1:=h.inv.r1;have a2:=h.inv.c1;have a3:=h.inv.row0;have a4:=h.inv.jK;have a5:=h.inv.jA;have a6:=h.inv.jD;have a7:=h.inv.iO;have a8:=h.inv.tb;have a9:=h.inv.bot;have e1:d.abs.rows=d.t.rows:=rfl;have e2:d.abs.ah=d.t.ah:=rfl;have e3:d.abs.row=d.t.row:=rfl;have e4:d.abs.col=d.t.col:=rfl;have e5:d.abs.top=d.t.top:=rfl;have e6:d.abs.bottom=d.t.bottom:=rfl;rw[e1]at a1 a4 a9;rw[e2]at a2 a6;rw[e3]at a3 a4;rw[e4]at a5 a6;rw[e5]at a7 a8;rw[e6]at a8 a9;have v2:TS.bg d.t.col 0 ((d.t.ah:Int)-1)=d.t.col:=by unfold TS.bg;omega
 unfold moves;by_cases h65:f=65
 ·subst h65;rw[ak rfl];refine hst _ ?_ rfl rfl rfl rfl rfl;have v1:TS.bg (if d.t.top≤d.t.row∧d.t.row-TS.times p<d.t.top then d.t.top else d.t.row-TS.times p) 0 ((d.t.rows:Int)-1)=max (d.t.row-TS.times p) (if d.t.top≤d.t.row then d.t.top else 0):=by
   unfold TS.bg;by_cases k1:d.t.top≤d.t.row
   ·rw[ak k1];by_cases k2:d.t.row-TS.times p<d.t.top
    ·rw[ak ⟨k1,k2⟩];omega
    ·rw[ai (fun x=>k2 x.2)];omega
   ·rw[ai (fun x=>k1 x.1),ai k1];omega
  rw[J_,v1,v2];rfl
 rw[ai h65];by_cases h66:f=66
 ·subst h66;rw[ak rfl];refine hst _ ?_ rfl rfl rfl rfl rfl;have v1:TS.bg (if d.t.row≤d.t.bottom∧d.t.bottom<d.t.row+TS.times p then d.t.bottom else d.t.row+TS.times p) 0 ((d.t.rows:Int)-1)=min (d.t.row+TS.times p) (if d.t.row≤d.t.bottom then d.t.bottom else(d.t.rows:Int)-1):=by
   unfold TS.bg;by_cases k1:d.t.row≤d.t.bottom
   ·rw[ak k1];by_cases k2:d.t.bottom<d.t.row+TS.times p
    ·rw[ak ⟨k1,k2⟩];omega
    ·rw[ai (fun x=>k2 x.2)];omega
   ·rw[ai (fun x=>k1 x.1),ai k1];omega
  rw[J_,v1,v2];rfl
 rw[ai h66];by_cases h67:f=67
 ·subst h67;rw[ak rfl];exact hst _ (Ka d h _) rfl rfl rfl rfl rfl
 rw[ai h67];by_cases h68:f=68
 ·subst h68;rw[ak rfl];exact hst _ (Ka d h _) rfl rfl rfl rfl rfl
 rw[ai h68];by_cases h71:f=71
 ·subst h71;rw[ak rfl];exact hst _ (Ka d h _) rfl rfl rfl rfl rfl
 rw[ai h71];by_cases h100:f=100
 ·subst h100;rw[ak rfl];refine hst _ ?_ rfl rfl rfl rfl rfl;rw[Ew];have:d.abs.aF.move 100 p q=d.abs.aF.bJ (TS.times p-1):=rfl;rw[this,qI,qI];unfold TS.bQ;show({d.abs with row:=_,col:=TS.bg d.t.col 0 ((d.t.ah:Int)-1),waits:=false}:TS)=_;rw[v2];rfl
 rw[ai h100];by_cases h72:f=72∨f=102
 ·rw[ak h72];refine hst _ ?_ rfl rfl rfl rfl rfl;rw[Ew];have:d.abs.aF.move f p q=(d.abs.aF.bJ (TS.times p-1)).bQ (TS.times q-1):=by unfold TS.move;rw[ai h65,ai h66,ai h67,ai h68,ai h71,ai h100,ak h72]
  rw[this,qI,qI];rfl
 ·exfalso;simp only[qZ,AR]at hf;omega
def pK (from' ah i:Nat):Nat:=min (from'-i*ah) ah
def fq (S:cz) (a b ah:Nat):Nat→cz
 | 0=>S
 |i+1=>if pK a ah i<pK b ah i then(fq S a b ah i).set i (over ((fq S a b ah i).getD i []) (pK a ah i) (List.replicate (pK b ah i-pK a ah i) aM))else fq S a b ah i
theorem iZ(S:cz)(a b ah:Nat):∀i,(fq S a b ah i).length=S.length:=by
 intro i;induction i with
 |zero=>rfl
 |succ i ih=>unfold fq;split<;>simp[ih]
theorem M5(S:cz)(a:Nat)(r:bY)(j:Nat):(S.set a r).getD j []=if j=a∧a<S.length then r else S.getD j []:=by
 simp only[List.getD,xX];by_cases h:a=j
 ·subst h;by_cases h2:a<S.length
  ·simp[h2]
  ·simp[h2]
 ·rw[ai h,ai (by omega)]
theorem wV(S:cz)(a b ah:Nat):∀i,i≤S.length→∀j,(fq S a b ah i).getD j []=if j<i∧pK a ah j<pK b ah j then over (S.getD j []) (pK a ah j) (List.replicate (pK b ah j-pK a ah j) aM)else S.getD j []:=by
 intro i;induction i with
 |zero=>intro _ j;rw[ai (by omega)];rfl
 |succ i ih=>
  intro hi j;have hI:=ih (by omega);unfold fq;by_cases hc:pK a ah i<pK b ah i
  ·have hIi:(fq S a b ah i).getD i []=S.getD i []:=by rw[hI i,ai (by omega)]
   rw[ak hc,hIi,M5,iZ];by_cases hj:j=i
   ·subst hj;rw[ak ⟨rfl,by omega⟩,ak ⟨by omega,hc⟩]
   ·rw[ai (by omega),hI j];by_cases h2:j<i∧pK a ah j<pK b ah j
    ·rw[ak h2,ak (by omega)]
    ·rw[ai h2,ai (by omega)]
  ·rw[ai hc,hI j];by_cases h2:j<i∧pK a ah j<pK b ah j
   ·rw[ak h2,ak (by omega)]
   ·by_cases hj:j=i
    ·subst hj;rw[ai h2,ai (by omega)]
    ·rw[ai h2,ai (by omega)]
theorem Aa.cleared{N:Int}{ah:Nat}{S:cz}(hN:0≤N)(h:Aa N ah S)(a b i:Nat)(hi:i≤S.length):Aa N ah (fq S a b ah i):=by
 intro r hr;obtain⟨j,hj,rfl⟩:=List.getElem_of_mem hr;have e':(fq S a b ah i).getD j []=(fq S a b ah i)[j]:=by simp[List.getD,eG hj]
 rw[iZ]at hj;rw[←e',wV _ _ _ _ _ hi];have hg:=h.getD hj;split
 ·rename_i hc;have hb:pK b ah j≤(S.getD j []).length:=by rw[hg.2];unfold pK;omega
  have:=tX hN hg.1 hc.2 hb;exact⟨this.2,by rw[Ah (by rw[kJ];omega)];exact hg.2⟩
 ·exact hg
def cleared (d:DT) (a b:Nat):DT:=d.setCur (fq d.cur a b d.t.ah d.t.rows)
theorem Sg{d:DT}(h:d.Ok)(a b j:Nat)(hj:j<d.t.rows):(dM (fq d.cur a b d.t.ah d.t.rows)).getD j []=if pK a d.t.ah j<pK b d.t.ah j then dP (d.abs.cur.getD j []) (pK a d.t.ah j) (pK b d.t.ah j)else d.abs.cur.getD j []:=by
 rw[gV,wV _ _ _ _ _ (by rw[h.lc];exact bN _),ry,gV];have hg:=h.rc.getD (i:=j) (by rw[h.lc];exact hj);by_cases hc:pK a d.t.ah j<pK b d.t.ah j
 ·rw[ak hc,ak ⟨hj,hc⟩];exact(tX h.I7 hg.1 hc (by rw[hg.2];unfold pK;omega)).1
 ·rw[ai hc,ai (fun x=>hc x.2)]
theorem JB{d:DT}(h:d.Ok)(a b:Nat){s:TS}(hf:s.Fit)(mF:∀j,j<d.t.rows→s.cur.getD j []=if pK a d.t.ah j<pK b d.t.ah j then dP (d.abs.cur.getD j []) (pK a d.t.ah j) (pK b d.t.ah j)else d.abs.cur.getD j [])(hl:s.cur.length=d.t.rows)(hs:s=d.abs.setCur s.cur):(d.cleared a b).Ok∧(d.cleared a b).abs=s:=by
 have he:dM (fq d.cur a b d.t.ah d.t.rows)=s.cur:=by
  apply zM
  ·rw[bF,iZ,h.lc,hl]
  ·intro j hj;rw[bF,iZ,h.lc]at hj;rw[Sg h a b j hj,mF j hj]
 have ha:(d.cleared a b).abs=s:=by unfold cleared;rw[qF,he, ←hs]
 exact⟨h.setCur (Aa.cleared h.I7 h.rc a b _ (by rw[h.lc];exact bN _)) (by rw[iZ];exact h.lc) (by show(d.cleared a b).abs.Fit;rw[ha];exact hf),ha⟩
end DT
theorem TS.iL(s:TS)(S:bS):s.setCur S= {s with s0:=if s.shown=0 then S else s.s0,s1:=if s.shown=0 then s.s1 else S}:=by
 unfold TS.setCur;by_cases h:s.shown=0
 ·rw[ak h,ak h,ak h]
 ·rw[ai h,ai h,ai h]
theorem TS.qJ(s:TS)(S:bS):(s.setCur S).cur=S:=by
 rw[TS.iL];unfold TS.cur;show(if s.shown=0 then(if s.shown=0 then S else s.s0)else(if s.shown=0 then s.s1 else S))=S;by_cases h:s.shown=0
 ·rw[ak h,ak h]
 ·rw[ai h,ai h]
theorem TS.rO(s:TS)(S T:bS):(s.setCur S).setCur T=s.setCur T:=by
 rw[TS.iL (s.setCur S),TS.iL s S,TS.iL s T];by_cases h:s.shown=0
 ·simp only[h,if_true]
 ·simp only[h,ou]
theorem xw{r:List aI}{ah:Nat}(h:r.length=ah):dP r 0 ah=iY ah:=by unfold dP jv;rw[List.take_zero,wL (by rw[aH,aH];omega)];simp[iY]
namespace DT
theorem Bi(k c ah j:Nat)(hc:c≤ah):pK (k*ah+c) ah j=if j<k then ah else if j=k then c else 0:=by
 unfold pK;by_cases h1:j<k
 ·rw[ak h1];have:(j+1)*ah≤k*ah:=Nat.mul_le_mul_right _ h1;rw[Nat.add_mul,Nat.one_mul]at this;omega
 ·rw[ai h1];by_cases h2:j=k
  ·subst h2;rw[ak rfl];omega
  ·rw[ai h2];have:(k+1)*ah≤j*ah:=Nat.mul_le_mul_right _ (by omega);rw[Nat.add_mul,Nat.one_mul]at this;omega
theorem Gq(ah j:Nat):pK 0 ah j=0:=by unfold pK;omega
def erase (d:DT) (f how:Int):DT:=
 let at':=d.t.row.toNat*d.t.ah+d.t.col.toNat;let lo:=if f=75 then d.t.row.toNat*d.t.ah else 0;let hi:=if f=75 then d.t.row.toNat*d.t.ah+d.t.ah else d.t.rows*d.t.ah
 if how=0 then d.cleared at' hi else if how=1 then d.cleared lo (at'+1)else if how=2 then d.cleared lo hi else d
theorem Qt{d:DT}(h:d.Ok)(f p:Int)(hf:f=74∨f=75):(d.erase f (TS.amount p)).Ok∧(d.erase f (TS.amount p)).abs=d.abs.edit f p:=by
 have hfit:(d.abs.edit f p).Fit:=h.fit.edit h.inv f p (fun hs=>by rcases hf with rfl|rfl<;>exact absurd hs (by decide));obtain⟨c,hc,hcc⟩:=h.cl;obtain⟨r,hr,hrr⟩:∃r:Nat,d.t.row=(r:Int)∧r<d.t.rows:=⟨d.t.row.toNat,by have:=h.inv.row0;have e:d.abs.row=d.t.row:=rfl;omega,by have:=h.inv.jK;have:=h.inv.row0;have e:d.abs.row=d.t.row:=rfl;have e2:d.abs.rows=d.t.rows:=rfl;omega⟩;have hcl:d.abs.cur.length=d.t.rows:=h.inv.ql;have hlen:∀j,j<d.t.rows→(d.abs.cur.getD j []).length=d.t.ah:=fun j hj=>by rw[ry,gV,aU];exact(h.rc.getD (by rw[h.lc];exact hj)).2
 have er:d.abs.row.toNat=r:=by show d.t.row.toNat=r;omega
 have ec:d.abs.col.toNat=c:=by show d.t.col.toNat=c;omega
 have ecs:d.abs.ah=d.t.ah:=rfl;have ers:d.abs.rows=d.t.rows:=rfl;have e1:d.t.row.toNat=r:=by omega
 have e2:d.t.col.toNat=c:=by omega
 have hrn:d.abs.aP=d.abs.cur.getD r []:=by rw[←er];rfl
 generalize hA:TS.amount p=how at*;unfold erase;simp only[e1,e2];have hset:∀S,d.abs.aN S=d.abs.setCur (d.abs.cur.set r S):=fun S=>by unfold TS.aN;rw[er]
 have K:∀a b S,(d.abs.edit f p)=d.abs.setCur S→S.length=d.t.rows→(∀j,j<d.t.rows→S.getD j []=if pK a d.t.ah j<pK b d.t.ah j then dP (d.abs.cur.getD j []) (pK a d.t.ah j) (pK b d.t.ah j)else d.abs.cur.getD j [])→(d.cleared a b).Ok∧(d.cleared a b).abs=d.abs.edit f p:=fun a b S hS hl hg=>by
  have hcu:(d.abs.edit f p).cur=S:=by rw[hS,TS.qJ]
  exact JB h a b hfit (by rw[hcu];exact hg) (by rw[hcu];exact hl) (by rw[hcu];exact hS)
 rcases hf with rfl|rfl
 ·
  have hE:d.abs.edit 74 p=(d.abs.dD how).dY how:=by unfold TS.edit;simp only[if_true,hA]
  simp only[show¬(74:Int)=75 by decide,ou];by_cases h0:how=0
  ·subst h0;rw[ak rfl];refine K _ _ (cK (d.abs.cur.set r (dP (d.abs.cur.getD r []) c d.t.ah)) (r+1) d.t.ah (d.t.rows-(r+1))) ?_ ?_ ?_
   ·rw[hE];unfold TS.dD;rw[ak rfl,hset,hrn,ec,ecs];unfold TS.dY;rw[ak rfl,TS.qJ,TS.rO];have q1:(d.abs.setCur (d.abs.cur.set r (dP (d.abs.cur.getD r []) c d.t.ah))).row.toNat=r:=by rw[TS.iL];exact er
    have q2:(d.abs.setCur (d.abs.cur.set r (dP (d.abs.cur.getD r []) c d.t.ah))).ah=d.t.ah:=by rw[TS.iL];rfl
    have q3:(d.abs.setCur (d.abs.cur.set r (dP (d.abs.cur.getD r []) c d.t.ah))).rows=d.t.rows:=by rw[TS.iL];rfl
    rw[q1,q2,q3]
   ·rw[fB,lG,hcl]
   ·intro j hj;rw[lK _ _ _ _ (by rw[lG,hcl];omega),r9,hcl,Bi _ _ _ _ (by omega),show d.t.rows*d.t.ah=d.t.rows*d.t.ah+0 by omega,Bi _ _ _ _ (by omega)];by_cases j1:j<r
    ·rw[ai (by omega),ai (by omega),ak j1,ak hj,ai (by omega)]
    ·by_cases j2:j=r
     ·subst j2;rw[ai (by omega),ak ⟨rfl,hj⟩,ai j1,ak rfl,ak hj,ak hcc]
     ·rw[ak (by omega),ai j1,ai j2,ak hj,ak (by omega),xw (hlen j hj)]
  ·rw[ai h0];by_cases h1:how=1
   ·subst h1;rw[ak rfl];refine K _ _ (cK (d.abs.cur.set r (dP (d.abs.cur.getD r []) 0 (c+1))) 0 d.t.ah r) ?_ ?_ ?_
    ·rw[hE];unfold TS.dD;rw[ai (by decide),ak rfl,hset,hrn,ec];unfold TS.dY;rw[ai (by decide),ak rfl,TS.qJ,TS.rO];have q1:(d.abs.setCur (d.abs.cur.set r (dP (d.abs.cur.getD r []) 0 (c+1)))).row.toNat=r:=by rw[TS.iL];exact er
     have q2:(d.abs.setCur (d.abs.cur.set r (dP (d.abs.cur.getD r []) 0 (c+1)))).ah=d.t.ah:=by rw[TS.iL];rfl
     rw[q1,q2]
    ·rw[fB,lG,hcl]
    ·intro j hj;rw[lK _ _ _ _ (by rw[lG,hcl];omega),r9,hcl,Gq,show r*d.t.ah+c+1=r*d.t.ah+(c+1) by omega,Bi _ _ _ _ (by omega)];by_cases j1:j<r
     ·rw[ak (by omega),ak j1,ak (by omega),xw (hlen j hj)]
     ·by_cases j2:j=r
      ·subst j2;rw[ai (by omega),ak ⟨rfl,hj⟩,ai j1,ak rfl,ak (by omega)]
      ·rw[ai (by omega),ai (by omega),ai j1,ai j2,ai (by omega)]
   ·rw[ai h1];by_cases h2:how=2
    ·subst h2;rw[ak rfl];refine K _ _ (cK (d.abs.cur.set r (dP (d.abs.cur.getD r []) 0 d.t.ah)) 0 d.t.ah d.t.rows) ?_ ?_ ?_
     ·rw[hE];unfold TS.dD;rw[ai (by decide),ai (by decide),ak rfl,hset,hrn,ecs];unfold TS.dY;rw[ai (by decide),ai (by decide),ak rfl,TS.qJ,TS.rO];have q2:(d.abs.setCur (d.abs.cur.set r (dP (d.abs.cur.getD r []) 0 d.t.ah))).ah=d.t.ah:=by rw[TS.iL];rfl
      have q3:(d.abs.setCur (d.abs.cur.set r (dP (d.abs.cur.getD r []) 0 d.t.ah))).rows=d.t.rows:=by rw[TS.iL];rfl
      rw[q2,q3]
     ·rw[fB,lG,hcl]
     ·intro j hj;rw[lK _ _ _ _ (by rw[lG,hcl];omega),Gq,show d.t.rows*d.t.ah=d.t.rows*d.t.ah+0 by omega,Bi _ _ _ _ (by omega),ak (by omega),ak hj,ak (by omega),xw (hlen j hj)]
    ·rw[ai h2];refine⟨h,?_⟩;rw[hE];unfold TS.dD TS.dY;rw[ai h0,ai h1,ai h2,ai h0,ai h1,ai h2]
 ·
  have hE:d.abs.edit 75 p=d.abs.dD how:=by unfold TS.edit;simp only[show¬(75:Int)=74 by decide,if_true,ou,hA]
  simp only[if_true];have G:∀(a b:Nat) (x y:Nat),x<y→y≤d.t.ah→pK a d.t.ah=(fun j=>if j<r then d.t.ah else if j=r then x else 0)→pK b d.t.ah=(fun j=>if j<r then d.t.ah else if j=r then y else 0)→∀j,j<d.t.rows→(d.abs.cur.set r (dP (d.abs.cur.getD r []) x y)).getD j []=if pK a d.t.ah j<pK b d.t.ah j then dP (d.abs.cur.getD j []) (pK a d.t.ah j) (pK b d.t.ah j)else d.abs.cur.getD j []:=by
   intro a b x y hxy hyc ha hb j hj;rw[r9,hcl,ha,hb];simp only;by_cases j1:j<r
   ·rw[ai (by omega),ak j1,ak j1,ai (by omega)]
   ·by_cases j2:j=r
    ·subst j2;rw[ak ⟨rfl,hj⟩,ai j1,ai j1,ak rfl,ak rfl,ak hxy]
    ·rw[ai (by omega),ai j1,ai j1,ai j2,ai j2,ai (by omega)]
  have A0:∀x,x≤d.t.ah→pK (r*d.t.ah+x) d.t.ah=(fun j=>if j<r then d.t.ah else if j=r then x else 0):=fun x hx=>funext fun j=>Bi _ _ _ _ hx;have A00:pK (r*d.t.ah) d.t.ah=(fun j=>if j<r then d.t.ah else if j=r then 0 else 0):=A0 0 (by omega);by_cases h0:how=0
  ·subst h0;rw[ak rfl];refine K _ _ (d.abs.cur.set r (dP (d.abs.cur.getD r []) c d.t.ah)) ?_ (by rw[lG,hcl]) (G _ _ c d.t.ah hcc (bN _) (A0 c (by omega)) (A0 _ (bN _)));rw[hE];unfold TS.dD;rw[ak rfl,hset,hrn,ec,ecs]
  ·rw[ai h0];by_cases h1:how=1
   ·subst h1;rw[ak rfl];refine K _ _ (d.abs.cur.set r (dP (d.abs.cur.getD r []) 0 (c+1))) ?_ (by rw[lG,hcl]) (G _ _ 0 (c+1) (by omega) (by omega) A00 (A0 (c+1) (by omega)));rw[hE];unfold TS.dD;rw[ai (by decide),ak rfl,hset,hrn,ec]
   ·rw[ai h1];by_cases h2:how=2
    ·subst h2;rw[ak rfl];refine K _ _ (d.abs.cur.set r (dP (d.abs.cur.getD r []) 0 d.t.ah)) ?_ (by rw[lG,hcl]) (G _ _ 0 d.t.ah (by omega) (bN _) A00 (A0 _ (bN _)));rw[hE];unfold TS.dD;rw[ai (by decide),ai (by decide),ak rfl,hset,hrn,ecs]
    ·rw[ai h2];refine⟨h,?_⟩;rw[hE];unfold TS.dD;rw[ai h0,ai h1,ai h2]
end DT
namespace DT
def rows (d:DT) (n:Int):DT:=if d.t.top≤d.t.row∧d.t.row≤d.t.bottom then((d.fI d.t.row n).sc (fun t=>{t with col:=0})).IM else d.IM
def region (d:DT) (top bottom:Int):DT:=
 let b:=if bottom≤0∨(d.t.rows:Int)<bottom then(d.t.rows:Int)else bottom
 if top<b then(d.sc (fun t=>{t with top:=top-1,bottom:=b-1})).to 0 0 else d
def lu (tb:List Bool) (z:Int) (c:Nat):List Bool:=if z=3 then List.replicate tb.length false else if z=0 then tb.set c false else tb
def qf (d:DT):List Int→DT
 | []=>d
 |n::l=>(d.sc (fun t=>{t with pen:=TS.turn t.pen (TS.amount n)})).qf l
def edit (d:DT) (f n z:Int) (b:Int) (ps:List Int):DT:=
 if f=64 then(d.put (pushed d.aP d.t.col.toNat n.toNat)).IM else if f=80 then(d.put (tY d.aP d.t.col.toNat n.toNat)).IM
 else if f=88 then(d.put (over d.aP d.t.col.toNat (List.replicate (min n.toNat (d.t.ah-d.t.col.toNat)) aM))).IM
 else if f=76 then d.rows (-n)else if f=77 then d.rows n else if f=83 then d.fI d.t.top n else if f=84 then d.fI d.t.top (-n)
 else if f=74∨f=75 then d.erase f z else if f=114 then d.region n b else if f=103 then{d with tb:=lu d.tb z d.t.col.toNat}
 else if f=109 then d.qf ps else if f=104∨f=108 then(if z=4 then d.sc (fun t=>{t with insert:=decide (f=104)})else d)else d
theorem VC(s:TS)(r:List aI):s.aF.aN r=(s.aN r).aF:=by unfold TS.aN;rw[TS.iL,TS.iL];rfl
theorem KZ(s:TS)(S:bS):s.aF.setCur S=(s.setCur S).aF:=by rw[TS.iL,TS.iL];rfl
theorem Ff{d:DT}(h:d.Ok){r:bY}{x:List aI}(hr:strip r=x∧Ao d.ids r)(hl:r.length=d.t.ah)(hf2:(d.abs.aN x).Fit):((d.put r).IM).Ok∧((d.put r).IM).abs=d.abs.aF.aN x:=by
 have ha:(d.put r).abs=d.abs.aN x:=by rw[Ev,hr.1]
 have k:=h.put ⟨hr.2,hl⟩ (by rw[ha];exact hf2);exact⟨(uh k).1,by rw[(uh k).2,ha,VC]⟩
theorem rows_ok{d:DT}(h:d.Ok)(f p:Int)(hf:f=76∨f=77):(d.rows (if f=76 then-(TS.times p)else TS.times p)).Ok∧(d.rows (if f=76 then-(TS.times p)else TS.times p)).abs=d.abs.aF.edit f p:=by
 have hi:=h.inv.aF.edit f p;have hfit:=h.fit.aF.edit h.inv.aF f p (fun _=>rfl);have hn:=TS.xN p;obtain⟨n,hn2⟩:∃n:Nat,TS.times p=(n:Int):=⟨(TS.times p).toNat,by omega⟩;have hE:d.abs.aF.edit f p=if d.abs.aF.inRegion then(d.abs.aF.setCur (if f=76 then oC d.abs.cur d.t.row.toNat d.abs.below n d.t.ah else FX d.abs.cur d.t.row.toNat d.abs.below n d.t.ah)).bQ 0 else d.abs.aF:=by unfold TS.edit;simp only[hn2,lF];rcases hf with rfl|rfl<;>simp<;>rfl
 have ab6:d.abs.aF.inRegion=decide (d.t.top≤d.t.row∧d.t.row≤d.t.bottom):=rfl;unfold rows;by_cases hin:d.t.top≤d.t.row∧d.t.row≤d.t.bottom
 ·rw[ak hin];rw[ab6,iP hin,ak rfl]at hE;have r0:0≤d.t.row:=h.inv.row0;have hsc:(d.fI d.t.row (if f=76 then-(TS.times p)else TS.times p)).abs=d.abs.setCur (if f=76 then oC d.abs.cur d.t.row.toNat d.abs.below n d.t.ah else FX d.abs.cur d.t.row.toNat d.abs.below n d.t.ah):=by
   rw[hn2];rcases hf with rfl|rfl
   ·rw[ak rfl,ak rfl,qE h _ _ r0 (by omega) (by omega)];rfl
   ·rw[ai (by decide),ai (by decide),sW h _ _ r0 (by omega) (by omega)];rfl
  have hsf:(d.fI d.t.row (if f=76 then-(TS.times p)else TS.times p)).abs.Fit:=by
   rw[hsc];have hb:d.t.row.toNat+d.abs.below≤d.abs.cur.length:=by have:=h.inv.bot;have hl:=h.inv.ql;unfold TS.below;have e1:d.abs.bottom=d.t.bottom:=rfl;have e2:d.abs.row=d.t.row:=rfl;omega
   rcases hf with rfl|rfl
   ·rw[ak rfl];exact h.fit.setCur (h.fit.cur.down _ _ _ hb)
   ·rw[ai (by decide)];exact h.fit.setCur (h.fit.cur.up _ _ _ hb)
  have k:=h.fI _ _ r0 hsf;have hz:=SB k;have ha:(((d.fI d.t.row (if f=76 then-(TS.times p)else TS.times p)).sc (fun t=>{t with col:=0})).IM).abs=d.abs.aF.edit f p:=by show(((d.fI d.t.row (if f=76 then-(TS.times p)else TS.times p)).sc (fun t=>{t with col:=0})).abs).aF=_;rw[hz,hsc,hE,KZ];rfl
  exact k.of ha hi hfit rfl rfl rfl rfl rfl
 ·rw[ai hin];rw[ab6,jh hin,ai (by simp)]at hE;exact h.of (by rw[hE];rfl) hi hfit rfl rfl rfl rfl rfl
theorem D8{d:DT}(h:d.Ok)(f p:Int)(hf:f=83∨f=84):(d.fI d.t.top (if f=84 then-(TS.times p)else TS.times p)).Ok∧(d.fI d.t.top (if f=84 then-(TS.times p)else TS.times p)).abs=d.abs.edit f p:=by
 have hfit:=h.fit.edit h.inv f p (fun hs=>by rcases hf with rfl|rfl<;>exact absurd hs (by decide));have hn:=TS.xN p;obtain⟨n,hn2⟩:∃n:Nat,TS.times p=(n:Int):=⟨(TS.times p).toNat,by omega⟩;have r0:0≤d.t.top:=h.inv.iO;have r1:d.t.top≤d.t.bottom:=h.inv.tb;have ha:(d.fI d.t.top (if f=84 then-(TS.times p)else TS.times p)).abs=d.abs.edit f p:=by
  unfold TS.edit;simp only[hn2,lF];rcases hf with rfl|rfl
  ·rw[ai (by decide),sW h _ _ r0 (by omega) (by omega)];simp;rfl
  ·rw[ak rfl,qE h _ _ r0 (by omega) (by omega)];simp;rfl
 exact⟨h.fI _ _ r0 (by rw[ha];exact hfit),ha⟩
theorem NI{d:DT}(h:d.Ok)(p q:Int):(d.region (TS.times p) (TS.amount q)).Ok∧(d.region (TS.times p) (TS.amount q)).abs=d.abs.gU (TS.times p-1) (TS.amount q-1):=by
 have hn:=TS.xN p;have hi:=h.inv.gU (TS.times p-1) (TS.amount q-1) (by omega);have hft:=h.fit.gU h.inv (TS.times p-1) (TS.amount q-1) (by omega);generalize TS.times p=n at*;generalize TS.amount q=m at*;have hb:(if m-1<0∨(d.t.rows:Int)-1<m-1 then(d.t.rows:Int)-1 else m-1)=(if m≤0∨(d.t.rows:Int)<m then(d.t.rows:Int)else m)-1:=by
  by_cases k:m≤0∨(d.t.rows:Int)<m
  ·rw[ak k,ak (by omega)]
  ·rw[ai k,ai (by omega)]
 unfold region;simp only;unfold TS.gU at hi hft ⊢;simp only at hi hft ⊢;rw[show d.abs.rows=d.t.rows from rfl,hb]at hi hft ⊢;generalize (if m≤0∨(d.t.rows:Int)<m then(d.t.rows:Int)else m)=b at*;by_cases hlt:n<b
 ·rw[ak hlt];rw[ai (by omega)]at hi hft ⊢;refine h.of ?_ hi hft rfl rfl rfl rfl rfl;rw[Ew];rfl
 ·rw[ai hlt,ak (by omega)];exact⟨h,rfl⟩
theorem vo(tb:List Bool)(z:Int)(c:Nat):(lu tb z c).length=tb.length:=by
 unfold lu
 repeat' split
 all_goals simp
theorem Vx{d:DT}(h:d.Ok)(p:Int):({d with tb:=lu d.tb (TS.amount p) d.t.col.toNat}:DT).Ok∧({d with tb:=lu d.tb (TS.amount p) d.t.col.toNat}:DT).abs=d.abs.fM (TS.amount p):=by
 have hi:=h.inv.fM (TS.amount p);have hf:=h.fit.fM (TS.amount p);have hl:(d.tb.take d.t.ah).length=d.t.ah:=h.inv.lt;generalize TS.amount p=z at*;have ha:({d with tb:=lu d.tb z d.t.col.toNat}:DT).abs=d.abs.fM z:=by
  show({d.abs with tabs:=(lu d.tb z d.t.col.toNat).take d.t.ah}:TS)=_;unfold lu TS.fM;by_cases h3:z=3
  ·subst h3;rw[ak rfl,ai (by decide),ak rfl];show _=({d.abs with tabs:=List.replicate (d.tb.take d.t.ah).length false}:TS);rw[hl,List.take_replicate,rT (by rw[kg]at hl;omega)]
  ·by_cases h0:z=0
   ·subst h0;rw[ai h3,ak rfl,ak rfl,List.take_set];rfl
   ·rw[ai h3,ai h0,ai h0,ai h3];rfl
 exact⟨⟨ha▸hi,ha▸hf,h.r0,h.r1,h.I7,by show(lu _ _ _).length=40;rw[vo];exact h.tl⟩,ha⟩
theorem Vh(l:List Int):∀{d:DT},d.Ok→(d.qf l).Ok∧(d.qf l).abs=d.abs.turns l:=by
 induction l with
 |nil=>intro d h;exact⟨h,rfl⟩
 |cons n l ih=>intro d h;have k:=h.of (e:=d.sc (fun t=>{t with pen:=TS.turn t.pen (TS.amount n)})) (s:={d.abs with pen:=TS.turn d.abs.pen (TS.amount n)}) rfl (h.inv.turns [n]) (h.fit.turns [n]) rfl rfl rfl rfl rfl;have j:=ih k.1;exact⟨j.1,by rw[qf,j.2,k.2];rfl⟩
def qO (ps:List Int) (ct i:Nat) (o:Int):Int:=if ct≤i∨ps.getD i 0<o then o else ps.getD i 0
theorem Wj{ps:List Int}{ct:Nat}(hz:∀i,ct≤i→ps.getD i 0=0)(i:Nat):qO ps ct i 1=TS.times (ps.getD i 0):=by
 unfold qO TS.times;by_cases h:ct≤i
 ·rw[ak (.inl h),hz i h];rfl
 ·split<;>omega
theorem Wi{ps:List Int}{ct:Nat}(hz:∀i,ct≤i→ps.getD i 0=0)(i:Nat):qO ps ct i 0=TS.amount (ps.getD i 0):=by
 unfold qO TS.amount;by_cases h:ct≤i
 ·rw[ak (.inl h),hz i h];rfl
 ·split<;>omega
def sequence (d:DT) (f:Int) (ps:List Int) (ct:Nat):DT:=
 if qZ f=true then d.moves f (qO ps ct 0 1) (qO ps ct 1 1)else d.edit f (qO ps ct 0 1) (qO ps ct 0 0) (qO ps ct 1 0) (ps.take ct)
theorem Ee(n:Int):TS.amount n=4↔n=4:=by unfold TS.amount;omega
theorem Ip{d:DT}(h:d.Ok)(f:Int)(ps:List Int)(ct:Nat)(hz:∀i,ct≤i→ps.getD i 0=0):(d.sequence f ps ct).Ok∧(d.sequence f ps ct).abs=d.abs.sequence 0 f ps ct:=by
 have hi:=h.inv.sequence 0 f ps ct;have hft:=h.fit.sequence h.inv 0 f ps ct;unfold sequence;rw[Wj hz,Wj hz,Wi hz,Wi hz];have hS:d.abs.sequence 0 f ps ct=(((if TS.mZ f then d.abs.aF else d.abs).move f (ps.getD 0 0) (ps.getD 1 0)).edit f (ps.getD 0 0)).kC f ps ct:=rfl;by_cases hm:qZ f=true
 ·rw[ak hm];have k:=Rh h f (ps.getD 0 0) (ps.getD 1 0) hm;refine⟨k.1,k.2.trans ?_⟩;rw[hS];simp only[qZ,AR]at hm;rcases hm with rfl|rfl|rfl|rfl|rfl|rfl|rfl|rfl<;>rfl
 rw[ai hm];have hnm:∀s:TS,s.move f (ps.getD 0 0) (ps.getD 1 0)=s:=fun s=>by simp only[qZ,AR]at hm;unfold TS.move;rw[ai (by omega),ai (by omega),ai (by omega),ai (by omega),ai (by omega),ai (by omega),ai (by omega)]
 rw[hnm]at hS;obtain⟨c,hc,hcc⟩:=h.cl;have e2:d.t.col.toNat=c:=by omega
 have hrl:=h.rn.2;have hn:=TS.xN (ps.getD 0 0);unfold edit;by_cases h64:f=64
 ·subst h64;rw[ak rfl,hS];have hp:=DU h.I7 h.rn.1 (a:=d.t.col.toNat) (n:=(TS.times (ps.getD 0 0)).toNat) (by omega) (by omega);have:=Ff h hp (by rw[qm hp.1,lW _ _ _ (by rw[aU];omega),aU,hrl]) (by rw[←lJ];exact h.fit.ins h.inv _);refine⟨this.1,this.2.trans ?_⟩;rw[←lJ];rfl
 rw[ai h64];by_cases h80:f=80
 ·subst h80;rw[ak rfl,hS];have hp:=NG h.rn.1 (a:=d.t.col.toNat) (n:=(TS.times (ps.getD 0 0)).toNat) (by omega) (by omega);have:=Ff h hp (by rw[qm hp.1,qP _ _ _ (by rw[aU];omega),aU,hrl]) (by rw[←lJ];exact h.fit.rem h.inv _);refine⟨this.1,this.2.trans ?_⟩;rw[←lJ];rfl
 rw[ai h80];by_cases h88:f=88
 ·subst h88;rw[ak rfl,hS];obtain⟨b,hb⟩:∃b,b=min (c+(TS.times (ps.getD 0 0)).toNat) d.t.ah:=⟨_,rfl⟩;have hm2:min (TS.times (ps.getD 0 0)).toNat (d.t.ah-d.t.col.toNat)=b-c:=by omega
  rw[hm2,e2];have hp:=tX h.I7 h.rn.1 (a:=c) (b:=b) (by omega) (by omega);have:=Ff h hp (by rw[Ah (by rw[kJ];omega),hrl]) (by rw[←lJ];exact h.fit.OJ h.inv _ _ (by omega) (by show b≤d.t.ah;omega));refine⟨this.1,this.2.trans ?_⟩;rw[←lJ,hb];show _=d.abs.aF.aN (dP d.abs.aF.aP d.t.col.toNat (min (d.t.col.toNat+(TS.times (ps.getD 0 0)).toNat) d.t.ah));rw[e2];rfl
 rw[ai h88];by_cases h76:f=76
 ·subst h76;have:=rows_ok h 76 (ps.getD 0 0) (.inl rfl);rw[ak rfl]at this ⊢;exact⟨this.1,this.2.trans (by rw[hS];rfl)⟩
 rw[ai h76];by_cases h77:f=77
 ·subst h77;have:=rows_ok h 77 (ps.getD 0 0) (.inr rfl);rw[ai (by decide)]at this;rw[ak rfl];exact⟨this.1,this.2.trans (by rw[hS];rfl)⟩
 rw[ai h77];by_cases h83:f=83
 ·subst h83;have:=D8 h 83 (ps.getD 0 0) (.inl rfl);rw[ai (by decide)]at this;rw[ak rfl];exact⟨this.1,this.2.trans (by rw[hS];rfl)⟩
 rw[ai h83];by_cases h84:f=84
 ·subst h84;have:=D8 h 84 (ps.getD 0 0) (.inr rfl);rw[ak rfl]at this ⊢;exact⟨this.1,this.2.trans (by rw[hS];rfl)⟩
 rw[ai h84];by_cases h74:f=74∨f=75
 ·rw[ak h74];have:=Qt h f (ps.getD 0 0) h74;refine⟨this.1,this.2.trans ?_⟩;rw[hS];rcases h74 with rfl|rfl<;>rfl
 rw[ai h74];have hst:TS.mZ f=false:=by unfold TS.mZ;simp only[qZ,AR]at hm;simp;omega
 have hE:(if TS.mZ f then d.abs.aF else d.abs).edit f (ps.getD 0 0)=d.abs:=by rw[hst];show d.abs.edit f _=_;unfold TS.edit;simp only;rw[ai (by omega),ai (by omega),ai h64,ai h80,ai h88,ai h76,ai h77,ai h83,ai h84]
 rw[hE]at hS;by_cases h114:f=114
 ·subst h114;rw[ak rfl,hS];exact NI h _ _
 rw[ai h114];by_cases h103:f=103
 ·subst h103;rw[ak rfl,hS];exact Vx h _
 rw[ai h103];by_cases h109:f=109
 ·subst h109;rw[ak rfl,hS];exact Vh _ h
 rw[ai h109];by_cases h104:f=104∨f=108
 ·rw[ak h104];have hA:d.abs.kC f ps ct=if ps.getD 0 0=4 then{d.abs with insert:=decide (f=104)} else d.abs:=by unfold TS.kC;rw[ai h114,ai h103,ai h109,ak h104]
  rw[hS]at hi hft ⊢;by_cases h4:ps.getD 0 0=4
  ·rw[ak ((Ee _).2 h4)];exact h.of (by rw[hA,ak h4];rfl) hi hft rfl rfl rfl rfl rfl
  ·rw[ai (fun x=>h4 ((Ee _).1 x)),hA,ai h4];exact⟨h,rfl⟩
 ·rw[ai h104,hS];unfold TS.kC;rw[ai h114,ai h103,ai h109,ai h104];exact⟨h,rfl⟩
def jr (d:DT) (n:Int) (on:Bool):DT:=
 if n=6 then(d.sc (fun t=>{t with origin:=on})).to 0 0 else if n=7 then d.sc (fun t=>{t with wrap:=on,waits:=if on then t.waits else false})else if n=47 then d.sc (fun t=>{t with shown:=if on then 1 else 0})else d
def privates (d:DT) (on:Bool):List Int→DT
 | []=>d
 |n::l=>(d.jr n on).privates on l
theorem Kj{d:DT}(h:d.Ok)(n:Int)(on:Bool):(d.jr n on).Ok∧(d.jr n on).abs=d.abs.set1 n on:=by
 have hi:=h.inv.set1 n on;have hft:=h.fit.set1 h.inv n on;unfold jr;by_cases h6:n=6
 ·subst h6;rw[ak rfl];refine h.of ?_ hi hft rfl rfl rfl rfl rfl;rw[Ew];rfl
 rw[ai h6];by_cases h7:n=7
 ·subst h7;rw[ak rfl];refine h.of ?_ hi hft rfl rfl rfl rfl rfl;have v:(if on then d.t.waits else false)=(d.t.waits&&on):=by cases on<;>simp
  have hS:d.abs.set1 7 on= {d.abs with wrap:=on,waits:=d.t.waits&&on}:=rfl;rw[hS, ←v];rfl
 rw[ai h7];by_cases h47:n=47
 ·subst h47;rw[ak rfl];exact h.of rfl hi hft rfl rfl rfl rfl rfl
 rw[ai h47];refine⟨h,?_⟩;unfold TS.set1;rw[ai h6,ai h7,ai h47]
theorem uV(on:Bool)(l:List Int):∀{d:DT},d.Ok→(d.privates on l).Ok∧(d.privates on l).abs=d.abs.sets on l:=by
 induction l with
 |nil=>intro d h;exact⟨h,rfl⟩
 |cons n l ih=>intro d h;have k:=Kj h n on;have j:=ih k.1;exact⟨j.1,by rw[privates,j.2,k.2];rfl⟩
def does (d:DT) (ev:List Int):DT:=
 if ev.getD 0 0=1 then d.print (ev.getD 1 0) (j_ (ev.getD 1 0)).toNat else if ev.getD 0 0=2 then d.control (ev.getD 1 0)else if ev.getD 0 0=3 then d.escape (ev.getD 2 0) (ev.getD 3 0)
 else if ev.getD 0 0=4 then(if ev.getD 2 0=0 then d.sequence (ev.getD 3 0) (ev.drop 5) (ev.getD 4 0).toNat else if ev.getD 2 0=63∧(ev.getD 3 0=104∨ev.getD 3 0=108)then d.privates (decide (ev.getD 3 0=104)) ((ev.drop 5).take (ev.getD 4 0).toNat)else d)else d
theorem UC{d:DT}(h:d.Ok)(ev:List Int)(hs:ev.getD 0 0=1→zh (ev.getD 1 0))(hz:∀i,(ev.getD 4 0).toNat≤i→(ev.drop 5).getD i 0=0):(d.does ev).Ok∧(d.does ev).abs=d.abs.take ev:=by
 unfold does TS.take;by_cases h1:ev.getD 0 0=1
 ·rw[ak h1,ak h1];exact Ro h _ (hs h1)
 rw[ai h1,ai h1];by_cases h2:ev.getD 0 0=2
 ·rw[ak h2,ak h2];exact JC h _
 rw[ai h2,ai h2];by_cases h3:ev.getD 0 0=3
 ·rw[ak h3,ak h3];exact M9 h _ _
 rw[ai h3,ai h3];by_cases h4:ev.getD 0 0=4
 ·rw[ak h4,ak h4];by_cases hm:ev.getD 2 0=0
  ·rw[ak hm,hm];exact Ip h _ _ _ hz
  rw[ai hm];unfold TS.sequence;rw[ai hm];by_cases hq:ev.getD 2 0=63
  ·rw[ak hq];by_cases hl:ev.getD 3 0=104∨ev.getD 3 0=108
   ·rw[ak ⟨hq,hl⟩,ak hl];exact uV _ _ h
   ·rw[ai (fun x=>hl x.2),ai hl];exact⟨h,rfl⟩
  ·rw[ai (fun x=>hq x.1),ai hq];exact⟨h,rfl⟩
 ·rw[ai h4,ai h4];exact⟨h,rfl⟩
end DT
end Go.Proofs.YtheibfffilomcaaGreatDoor
