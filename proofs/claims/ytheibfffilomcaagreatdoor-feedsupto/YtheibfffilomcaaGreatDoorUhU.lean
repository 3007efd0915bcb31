import Derived.Test.YtheibfffilomcaaGreatDoorTmaU
import Derived.Test.YtheibfffilomcaaGreatDoorXiU
set_option linter.all false
namespace Go.Proofs.YtheibfffilomcaaGreatDoor
structure DT where
 t:TS
 d0:cz
 d1:cz
 tb:List Bool
 ids:Int
namespace DT
def abs (d:DT):TS:={d.t with s0:=dM d.d0,s1:=dM d.d1,tabs:=d.tb.take d.t.ah}
structure Ok (d:DT):Prop where
 inv:d.abs.Inv
 fit:d.abs.Fit
 r0:Aa d.ids d.t.ah d.d0
 r1:Aa d.ids d.t.ah d.d1
 I7:0≤d.ids
 tl:d.tb.length=40
def cur (d:DT):cz:=if d.t.shown=0 then d.d0 else d.d1
def setCur (d:DT) (S:cz):DT:=if d.t.shown=0 then{d with d0:=S} else{d with d1:=S}
def aP (d:DT):bY:=d.cur.getD d.t.row.toNat []
def put (d:DT) (r:bY):DT:=d.setCur (d.cur.set d.t.row.toNat r)
def fI (d:DT) (top n:Int):DT:=d.setCur (bI d.cur top d.t.bottom n d.t.ah)
theorem ry(d:DT):d.abs.cur=dM d.cur:=by unfold TS.cur cur;show(if d.t.shown=0 then _ else _)=_;split<;>rfl
theorem qF(d:DT)(S:cz):(d.setCur S).abs=d.abs.setCur (dM S):=by unfold setCur TS.setCur;show _=if d.t.shown=0 then _ else _;split<;>rfl
theorem lJ(d:DT):d.abs.aP=strip d.aP:=by unfold TS.aP aP;rw[ry,gV];rfl
theorem Ev(d:DT)(r:bY):(d.put r).abs=d.abs.aN (strip r):=by unfold put TS.aN;rw[qF,KO,ry];rfl
theorem sD(d:DT)(S:cz):(d.setCur S).t=d.t∧(d.setCur S).tb=d.tb∧(d.setCur S).ids=d.ids:=by unfold setCur;split<;>exact⟨rfl,rfl,rfl⟩
theorem qJ(d:DT)(S:cz):(d.setCur S).cur=S:=by unfold cur;rw[(d.sD S).1];unfold setCur;split<;>rfl
theorem Ok.rc{d:DT}(h:d.Ok):Aa d.ids d.t.ah d.cur:=by unfold cur;split<;>first|exact h.r0|exact h.r1
theorem Ok.lc{d:DT}(h:d.Ok):d.cur.length=d.t.rows:=by have:=h.inv.ql;rw[ry,bF]at this;exact this
theorem Ok.rn{d:DT}(h:d.Ok):Ao d.ids d.aP∧d.aP.length=d.t.ah:=h.rc.getD (by
 rw[h.lc];have:=h.inv.row0;have:=h.inv.jK;show d.t.row.toNat<d.t.rows;have e1:d.abs.row=d.t.row:=rfl;have e2:d.abs.rows=d.t.rows:=rfl;omega)
theorem Ok.Ij{d e:DT}(h:d.Ok)(hi:e.abs.Inv)(hf:e.abs.Fit)(e0:e.d0=d.d0)(e1:e.d1=d.d1)(et:e.tb=d.tb)(ei:e.ids=d.ids)(ec:e.t.ah=d.t.ah):e.Ok:=
 ⟨hi,hf,by rw[e0,ei,ec];exact h.r0,by rw[e1,ei,ec];exact h.r1,by rw[ei];exact h.I7,by rw[et];exact h.tl⟩
theorem Ok.setCur{d:DT}(h:d.Ok){S:cz}(hS:Aa d.ids d.t.ah S)(hl:S.length=d.t.rows)(hf:(d.setCur S).abs.Fit):(d.setCur S).Ok:=by
 have hi:(d.setCur S).abs.Inv:=by rw[qF];exact h.inv.setCur (by rw[bF];exact hl)
 revert hi hf
 unfold DT.setCur;split
 ·intro hf hi;exact⟨hi,hf,hS,h.r1,h.I7,h.tl⟩
 ·intro hf hi;exact⟨hi,hf,h.r0,hS,h.I7,h.tl⟩
theorem Ok.put{d:DT}(h:d.Ok){r:bY}(hr:Ao d.ids r∧r.length=d.t.ah)(hf:(d.put r).abs.Fit):(d.put r).Ok:=h.setCur (h.rc.set _ hr) (by rw[lG];exact h.lc) hf
theorem Ok.fI{d:DT}(h:d.Ok)(top n:Int)(h0:0≤top)(hf:(d.fI top n).abs.Fit):(d.fI top n).Ok:=by refine h.setCur (h.rc.RL _ _ _ h0 ?_) (by rw[fZ];exact h.lc) hf;rw[h.lc];exact h.inv.bot
theorem sW{d:DT}(h:d.Ok)(top:Int)(n:Nat)(h0:0≤top)(ht:top≤d.t.bottom+1)(hn:1≤n):(d.fI top n).abs=d.abs.setCur (FX d.abs.cur top.toNat (d.abs.bottom+1-top).toNat n d.abs.ah):=by unfold fI;rw[qF,Im _ _ _ _ _ h0 ht (by rw[h.lc];exact h.inv.bot) hn,ry];rfl
theorem qE{d:DT}(h:d.Ok)(top:Int)(n:Nat)(h0:0≤top)(ht:top≤d.t.bottom+1)(hn:1≤n):(d.fI top (-(n:Int))).abs=d.abs.setCur (oC d.abs.cur top.toNat (d.abs.bottom+1-top).toNat n d.abs.ah):=by unfold fI;rw[qF,CJ _ _ _ _ _ h0 ht (by rw[h.lc];exact h.inv.bot) hn,ry];rfl
def wi (n lo hi:Int):Int:=if(if hi<n then hi else n)<lo then lo else(if hi<n then hi else n)
theorem vF(n lo hi:Int):wi n lo hi=TS.bg n lo hi:=by unfold wi TS.bg;split<;>split<;>omega
def down (d:DT):DT:=if d.t.row=d.t.bottom then d.fI d.t.top 1 else if d.t.row<(d.t.rows:Int)-1 then{d with t:={d.t with row:=d.t.row+1}} else d
def up (d:DT):DT:=if d.t.row=d.t.top then d.fI d.t.top (-1)else if 0<d.t.row then{d with t:={d.t with row:=d.t.row-1}} else d
theorem uO{d:DT}(h:d.Ok):d.down.abs=d.abs.down:=by
 have a1:=h.inv.iO;have a2:=h.inv.tb;have a3:=h.inv.row0;have a4:=h.inv.jK;have e:∀(x:Int),d.abs.top=d.t.top∧d.abs.bottom=d.t.bottom∧d.abs.row=d.t.row∧d.abs.rows=d.t.rows:=fun _=>⟨rfl,rfl,rfl,rfl⟩;obtain⟨e1,e2,e3,e4⟩:=e 0;unfold down TS.down;show _=if d.t.row=d.t.bottom then _ else _;split
 ·exact sW h d.t.top 1 (by omega) (by omega) (bN 1)
 ·unfold TS.nD TS.bg;split
  ·have hv:max 0 (min (d.t.row+1) ((d.t.rows:Int)-1))=d.t.row+1:=by omega
   show({d.abs with row:=d.t.row+1}:TS)= {d.abs with row:=max 0 (min (d.t.row+1) ((d.t.rows:Int)-1))};rw[hv]
  ·have hv:max 0 (min (d.t.row+1) ((d.t.rows:Int)-1))=d.t.row:=by omega
   show({d.abs with row:=d.t.row}:TS)= {d.abs with row:=max 0 (min (d.t.row+1) ((d.t.rows:Int)-1))};rw[hv]
theorem PV{d:DT}(h:d.Ok):d.up.abs=d.abs.up:=by
 have a1:=h.inv.iO;have a2:=h.inv.tb;have a3:=h.inv.row0;have a4:=h.inv.jK;have e:∀(x:Int),d.abs.top=d.t.top∧d.abs.bottom=d.t.bottom∧d.abs.row=d.t.row∧d.abs.rows=d.t.rows:=fun _=>⟨rfl,rfl,rfl,rfl⟩;obtain⟨e1,e2,e3,e4⟩:=e 0;unfold up TS.up;show _=if d.t.row=d.t.top then _ else _;split
 ·exact qE h d.t.top 1 (by omega) (by omega) (bN 1)
 ·unfold TS.nD TS.bg;split
  ·have hv:max 0 (min (d.t.row-1) ((d.t.rows:Int)-1))=d.t.row-1:=by omega
   show({d.abs with row:=d.t.row-1}:TS)= {d.abs with row:=max 0 (min (d.t.row-1) ((d.t.rows:Int)-1))};rw[hv]
  ·have hv:max 0 (min (d.t.row-1) ((d.t.rows:Int)-1))=d.t.row:=by omega
   show({d.abs with row:=d.t.row}:TS)= {d.abs with row:=max 0 (min (d.t.row-1) ((d.t.rows:Int)-1))};rw[hv]
theorem Ok.down{d:DT}(h:d.Ok):d.down.Ok:=by
 have hi:=h.inv.down;have hf:=h.fit.down h.inv;rw[←uO h]at hi hf
 revert hi hf
 unfold DT.down;split
 ·intro hi hf;exact h.fI _ _ h.inv.iO hf
 ·split
  ·intro hi hf;exact h.Ij hi hf rfl rfl rfl rfl rfl
  ·intro _ _;exact h
theorem Ok.up{d:DT}(h:d.Ok):d.up.Ok:=by
 have hi:=h.inv.up;have hf:=h.fit.up h.inv;rw[←PV h]at hi hf
 revert hi hf
 unfold DT.up;split
 ·intro hi hf;exact h.fI _ _ h.inv.iO hf
 ·split
  ·intro hi hf;exact h.Ij hi hf rfl rfl rfl rfl rfl
  ·intro _ _;exact h
end DT
namespace DT
def nI (d:DT) (wd:Nat):DT:=if d.t.insert then d.put (pushed d.aP d.t.col.toNat wd)else d
def ED (d:DT) (c:Int) (wd:Nat):DT:={d.put (over d.aP d.t.col.toNat (mQ c d.t.pen wd (d.ids+1)))with ids:=if wd=2 then d.ids+1 else d.ids}
def rG (d:DT) (wd:Nat):DT:=if d.t.col+(wd:Int)<(d.t.ah:Int)then{d with t:={d.t with col:=d.t.col+(wd:Int)}} else{d with t:={d.t with col:=(d.t.ah:Int)-1,waits:=d.t.wrap}}
def fo (d:DT) (c:Int) (wd:Nat):DT:=((d.nI wd).ED c wd).rG wd
theorem qg(d:DT)(r:bY):(d.put r).t=d.t∧(d.put r).tb=d.tb∧(d.put r).ids=d.ids:=d.sD _
theorem EW(d:DT)(wd:Nat):(d.nI wd).t=d.t∧(d.nI wd).tb=d.tb∧(d.nI wd).ids=d.ids:=by unfold nI;split<;>first|exact d.qg _|exact⟨rfl,rfl,rfl⟩
theorem Ah{r:bY}{a:Nat}{q:bY}(h:a+q.length≤r.length):(over r a q).length=r.length:=by
 have hm:∀(l:bY) (p:Option DC),(mend p l).length=l.length:=by
  intro l;induction l with
  |nil=>intro p;rfl
  |cons c l ih=>intro p;rw[mend,fE,ih,fE]
 unfold over;rw[hm];simp;omega
theorem qm{r:bY}{x:List aI}(h:strip r=x):r.length=x.length:=by rw[←h,aU]
theorem Ok.cl{d:DT}(h:d.Ok):∃k:Nat,d.t.col=(k:Int)∧k<d.t.ah:=by have a:=h.inv.jA;have b:=h.inv.jD;exact⟨d.t.col.toNat,by have e:d.abs.col=d.t.col:=rfl;omega,by have e:d.abs.col=d.t.col:=rfl;have e2:d.abs.ah=d.t.ah:=rfl;omega⟩
theorem EU{d:DT}(h:d.Ok)(wd:Nat)(hwd:1≤wd):(d.nI wd).Ok∧(d.nI wd).abs=if d.abs.insert then d.abs.kV wd else d.abs:=by
 obtain⟨k,hk,hkc⟩:=h.cl;have hp:=DU h.I7 h.rn.1 (a:=d.t.col.toNat) (n:=wd) (by rw[h.rn.2];omega) hwd;unfold nI;show _∧_=if d.t.insert=true then _ else _;split
 ·have ha:(d.put (pushed d.aP d.t.col.toNat wd)).abs=d.abs.kV wd:=by rw[Ev,hp.1];unfold TS.kV;rw[lJ];rfl
  refine⟨h.put ⟨hp.2,?_⟩ ?_,ha⟩
  ·rw[qm hp.1,lW _ _ _ (by rw[aU,h.rn.2];omega),aU,h.rn.2]
  ·rw[ha];exact h.fit.ins h.inv wd
 ·exact⟨h,rfl⟩
theorem Xy{d:DT}(h:d.Ok)(c:Int)(wd:Nat)(hwd:wd=1∨wd=2)(hc:d.t.col+(wd:Int)≤(d.t.ah:Int))(hs:zh c)(hw:j_ c=wd):(d.ED (d.abs.spelt c) wd).Ok∧(d.ED (d.abs.spelt c) wd).abs=d.abs.kG c wd:=by
 obtain⟨k,hk,hkc⟩:=h.cl;have hp:=Rk h.I7 h.rn.1 (a:=d.t.col.toNat) (d.abs.spelt c) d.t.pen wd hwd (by rw[h.rn.2];omega);have ha:(d.ED (d.abs.spelt c) wd).abs=d.abs.kG c wd:=by unfold ED;have:({d.put (over d.aP d.t.col.toNat (mQ (d.abs.spelt c) d.t.pen wd (d.ids+1)))with ids:=if wd=2 then d.ids+1 else d.ids}:DT).abs=(d.put (over d.aP d.t.col.toNat (mQ (d.abs.spelt c) d.t.pen wd (d.ids+1)))).abs:=rfl;rw[this,Ev,hp.1];unfold TS.kG;rw[lJ];rfl
 refine⟨?_,ha⟩;have hl:(over d.aP d.t.col.toNat (mQ (d.abs.spelt c) d.t.pen wd (d.ids+1))).length=d.t.ah:=by rw[qm hp.1,rD,aU,h.rn.2]
 have hN:d.ids≤(if wd=2 then d.ids+1 else d.ids):=by split<;>omega
 have hset:Aa (if wd=2 then d.ids+1 else d.ids) d.t.ah (d.cur.set d.t.row.toNat (over d.aP d.t.col.toNat (mQ (d.abs.spelt c) d.t.pen wd (d.ids+1)))):=(h.rc.mono hN).set _ ⟨hp.2,hl⟩;have hinv:(d.ED (d.abs.spelt c) wd).abs.Inv:=by rw[ha];exact h.inv.aN _
 have hfit:(d.ED (d.abs.spelt c) wd).abs.Fit:=by rw[ha];exact h.fit.put h.inv c wd hs hw hwd hc
 refine⟨hinv,hfit,?_,?_,Int.le_trans h.I7 hN,?_⟩
 ·unfold ED put DT.setCur;split<;>first|exact hset|exact h.r0.mono hN
 ·unfold ED put DT.setCur;split<;>first|exact hset|exact h.r1.mono hN
 ·show(d.put _).tb.length=40;rw[(d.qg _).2.1];exact h.tl
theorem DR{d:DT}(h:d.Ok)(c:Int)(wd:Nat)(hwd:wd=1∨wd=2)(hc:d.t.col+(wd:Int)≤(d.t.ah:Int))(hs:zh c)(hw:j_ c=wd)(hn:d.t.waits=false):(d.fo (d.abs.spelt c) wd).Ok∧(d.fo (d.abs.spelt c) wd).abs=d.abs.fo c wd:=by
 have hI:=EU h wd (by omega);have ht:=(d.EW wd).1;have hsp:(d.nI wd).abs.spelt c=d.abs.spelt c:=by unfold TS.spelt;show(if(if(d.nI wd).t.use=1 then(d.nI wd).t.second else(d.nI wd).t.first)=1 then _ else _)=_;rw[ht];rfl
 have hC:=Xy hI.1 c wd hwd (by rw[ht];exact hc) hs hw;rw[hsp]at hC;have hct:((d.nI wd).ED (d.abs.spelt c) wd).t=d.t:=((d.nI wd).qg _).1.trans ht;have ha:(d.fo (d.abs.spelt c) wd).abs=d.abs.fo c wd:=by
  unfold fo TS.fo;rw[←hI.2, ←hC.2];generalize hX:(d.nI wd).ED (d.abs.spelt c) wd=X at*;unfold rG TS.step TS.bQ TS.bg;obtain⟨k,hk,hkc⟩:=h.cl;have e1:X.abs.col=X.t.col:=rfl;have e2:X.abs.ah=X.t.ah:=rfl;have e3:X.abs.waits=X.t.waits:=rfl;have e4:X.abs.wrap=X.t.wrap:=rfl;rw[←hct]at hk hkc hc hn;split
  ·rename_i hlt;have v1:max 0 (min (X.t.col+(wd:Int)) ((X.t.ah:Int)-1))=X.t.col+(wd:Int):=by omega
   have v2:(X.t.wrap&&decide ((X.t.ah:Int)-1<X.t.col+(wd:Int)))=X.t.waits:=by rw[jh (by omega),hn];simp
   show({X.abs with col:=X.t.col+(wd:Int),waits:=X.t.waits}:TS)= {X.abs with col:=max 0 (min (X.t.col+(wd:Int)) ((X.t.ah:Int)-1)),waits:=X.t.wrap&&decide ((X.t.ah:Int)-1<X.t.col+(wd:Int))};rw[v1,v2]
  ·rename_i hlt;have v1:max 0 (min (X.t.col+(wd:Int)) ((X.t.ah:Int)-1))=(X.t.ah:Int)-1:=by omega
   have v2:(X.t.wrap&&decide ((X.t.ah:Int)-1<X.t.col+(wd:Int)))=X.t.wrap:=by rw[iP (by omega)];simp
   show({X.abs with col:=(X.t.ah:Int)-1,waits:=X.t.wrap}:TS)= {X.abs with col:=max 0 (min (X.t.col+(wd:Int)) ((X.t.ah:Int)-1)),waits:=X.t.wrap&&decide ((X.t.ah:Int)-1<X.t.col+(wd:Int))};rw[v1,v2]
 have hinv:=h.inv.fo c wd;have hfit:=h.fit.fo h.inv c wd hs hw hwd hc;rw[←ha]at hinv hfit;refine⟨?_,ha⟩
 revert hinv hfit
 unfold fo rG;split
 ·intro hinv hfit;exact hC.1.Ij hinv hfit rfl rfl rfl rfl rfl
 ·intro hinv hfit;exact hC.1.Ij hinv hfit rfl rfl rfl rfl rfl
def pO (d:DT):DT:=DT.down {d with t:={d.t with waits:=false,col:=0}}
def print (d:DT) (c:Int) (wd:Nat):DT:=
 if wd=0∨wd=2∧d.t.ah=1 then d
 else if d.t.waits=true∨(wd=2∧d.t.col=(d.t.ah:Int)-1)∧d.t.wrap=true then d.pO.fo (d.abs.spelt c) wd
 else if wd=2∧d.t.col=(d.t.ah:Int)-1 then d
 else d.fo (d.abs.spelt c) wd
theorem E5{d:DT}(h:d.Ok):d.pO.Ok∧d.pO.abs=d.abs.aF.bE:=by
 have hu:({d with t:={d.t with waits:=false,col:=0}}:DT).abs=d.abs.aF.bQ 0:=by
  unfold TS.bQ TS.bg;have hc:=h.inv.c1;have e2:d.abs.ah=d.t.ah:=rfl;have v:max 0 (min 0 ((d.t.ah:Int)-1))=0:=by omega
  show({d.abs with waits:=false,col:=0}:TS)= {d.abs with waits:=false,col:=max 0 (min 0 ((d.t.ah:Int)-1))};rw[v]
 have k:({d with t:={d.t with waits:=false,col:=0}}:DT).Ok:=by
  refine h.Ij ?_ ?_ rfl rfl rfl rfl rfl
  ·rw[hu];exact h.inv.aF.bQ 0
  ·rw[hu];exact h.fit.aF.bQ rfl 0
 exact⟨k.down,by unfold pO;rw[uO k,hu];rfl⟩
theorem JJ(d:DT):d.down.t.waits=d.t.waits∧d.down.t.col=d.t.col∧d.down.t.ah=d.t.ah:=by
 unfold down;split
 ·unfold fI;rw[(d.sD _).1];exact⟨rfl,rfl,rfl⟩
 ·split<;>exact⟨rfl,rfl,rfl⟩
theorem UD(s:TS)(c:Int):s.down.spelt c=s.spelt c:=by
 unfold TS.down;split
 ·unfold TS.gQ;exact TS.Fs _ _ _
 ·rfl
theorem Ro{d:DT}(h:d.Ok)(c:Int)(hs:zh c):(d.print c (j_ c).toNat).Ok∧(d.print c (j_ c).toNat).abs=d.abs.print c (j_ c).toNat:=by
 have hw:=uk c;obtain⟨wd,hwd⟩:∃wd:Nat,j_ c=(wd:Int):=⟨(j_ c).toNat,by omega⟩;rw[hwd,lF];obtain⟨k,hk,hkc⟩:=h.cl;have hN:=E5 h;have ae4:d.pO.abs.spelt c=d.abs.spelt c:=by rw[hN.2];unfold TS.bE;rw[UD];rfl
 have hnt:=DT.JJ {d with t:={d.t with waits:=false,col:=0}};unfold print TS.print;have c1:(wd=0∨d.abs.ah<wd)↔(wd=0∨wd=2∧d.t.ah=1):=by have e2:d.abs.ah=d.t.ah:=rfl;omega
 by_cases h1:wd=0∨wd=2∧d.t.ah=1
 ·rw[ak h1,ak (c1.2 h1)];exact⟨h,rfl⟩
 rw[ai h1,ai (fun x=>h1 (c1.1 x))];have hwd2:wd=1∨wd=2:=by omega
 have N2:=fun(hc:d.pO.t.col+(wd:Int)≤(d.pO.t.ah:Int))=>DR hN.1 c wd hwd2 hc hs hwd hnt.1;rw[ae4]at N2;have hnc:d.pO.t.col=0:=hnt.2.1;have ae3:d.pO.t.ah=d.t.ah:=hnt.2.2;by_cases hwt:d.t.waits=true
 ·rw[ak (.inl hwt)];have hp1:d.abs.gH=d.pO.abs:=by unfold TS.gH;rw[ak (show d.abs.waits=true from hwt),hN.2]
  have hcc:d.pO.abs.col=0:=hnc;have hcs:d.pO.abs.ah=d.t.ah:=ae3;have e2:d.abs.ah=d.t.ah:=rfl;rw[hp1,ai (by rw[hcc];omega)];exact N2 (by omega)
 ·have hwf:d.t.waits=false:=by simpa using hwt
  have hp1:d.abs.gH=d.abs:=by unfold TS.gH;rw[ai (show¬d.abs.waits=true from hwt)]
  rw[hp1];have e1:d.abs.col=d.t.col:=rfl;have e2:d.abs.ah=d.t.ah:=rfl;have hun:d.abs.aF=d.abs:=by unfold TS.aF;rw[←hwf];rfl
  by_cases ht:wd=2∧d.t.col=(d.t.ah:Int)-1
  ·rw[ak (show(d.abs.ah:Int)<d.abs.col+(wd:Int) by omega)];by_cases hwr:d.t.wrap=true
   ·rw[ak (.inr ⟨ht,hwr⟩),ak (show d.abs.wrap=true from hwr)];have:=N2 (by omega);rw[hN.2,hun]at this;exact this
   ·rw[ai (by rintro(x|⟨_,x⟩);exact hwt x;exact hwr x),ak ht,ai (show¬d.abs.wrap=true from hwr)];exact⟨h,rfl⟩
  ·rw[ai (by rintro(x|⟨x,_⟩);exact hwt x;exact ht x),ai ht,ai (show¬(d.abs.ah:Int)<d.abs.col+(wd:Int) by omega)];exact DR h c wd hwd2 (by omega) hs hwd hwf
end DT
theorem vE(s:TS):s.aF.down=s.down.aF:=by
 unfold TS.down;show(if s.row=s.bottom then _ else _)=TS.aF (if s.row=s.bottom then _ else _);split
 ·unfold TS.gQ TS.setCur;show(if s.shown=0 then _ else _)=TS.aF (if s.shown=0 then _ else _);split<;>rfl
 ·rfl
theorem Oy(s:TS):s.aF.up=s.up.aF:=by
 unfold TS.up;show(if s.row=s.top then _ else _)=TS.aF (if s.row=s.top then _ else _);split
 ·unfold TS.h_ TS.setCur;show(if s.shown=0 then _ else _)=TS.aF (if s.shown=0 then _ else _);split<;>rfl
 ·rfl
theorem KW(s:TS)(c:Int):(s.bQ c).down=s.down.bQ c:=by
 unfold TS.down;show(if s.row=s.bottom then _ else _)=TS.bQ (if s.row=s.bottom then _ else _) c;split
 ·unfold TS.gQ TS.setCur;show(if s.shown=0 then _ else _)=TS.bQ (if s.shown=0 then _ else _) c;split<;>rfl
 ·rfl
namespace DT
def sc (d:DT) (f:TS→TS):DT:={d with t:=f d.t}
def IM (d:DT):DT:={d with t:=d.t.aF}
theorem uh{d:DT}(h:d.Ok):d.IM.Ok∧d.IM.abs=d.abs.aF:=⟨h.Ij h.inv.aF h.fit.aF rfl rfl rfl rfl rfl,rfl⟩
theorem Ok.of{d e:DT}(h:d.Ok){s:TS}(ha:e.abs=s)(hi:s.Inv)(hf:s.Fit)(e0:e.d0=d.d0)(e1:e.d1=d.d1)(et:e.tb=d.tb)(ei:e.ids=d.ids)(ec:e.t.ah=d.t.ah):e.Ok∧e.abs=s:=
 ⟨h.Ij (ha▸hi) (ha▸hf) e0 e1 et ei ec,ha⟩
def qp (l:List Bool) (c:Nat):Nat:=c+(l.drop c).findIdx id
theorem Fy(l:List Bool)(c:Nat)(hc:c≤l.length)(hl:1≤l.length):TS.bg (qp l c) 0 ((l.length:Int)-1)=TS.bg (TS.jH l c) 0 ((l.length:Int)-1):=by
 unfold qp TS.jH;rw[List.findIdx?_eq_guard_findIdx_lt];by_cases h:(l.drop c).findIdx id<(l.drop c).length
 ·rw[Option.guard_eq_some_iff.2 ⟨rfl,by simpa using h⟩];show TS.bg ((c+_:Nat):Int) _ _=_;rw[Int.natCast_add]
 ·have hle:(l.drop c).findIdx id=(l.drop c).length:=by have:=List.findIdx_le_length (xs:=l.drop c) (p:=id);omega
  rw[show(Option.guard (fun i=>decide (i<(l.drop c).length)) ((l.drop c).findIdx id))=none by simp only[Option.guard];rw[ai (by simpa using h)]];rw[hle,o8];unfold TS.bg;show max 0 (min (((c+(l.length-c):Nat):Int)) _)=max 0 (min ((l.length:Int)-1) _);omega
def control (d:DT) (c:Int):DT:=
 let e:DT:=if c=8 then d.sc (fun t=>{t with col:=wi (t.col-1) 0 ((t.ah:Int)-1)})else if c=9 then d.sc (fun t=>{t with col:=wi (qp (d.tb.take t.ah) (t.col.toNat+1)) 0 ((t.ah:Int)-1)})
  else if c=10∨c=11∨c=12 then d.down else if c=13 then d.sc (fun t=>{t with col:=0})else if c=14 then d.sc (fun t=>{t with use:=1})else if c=15 then d.sc (fun t=>{t with use:=0})else d
 if 8≤c∧c≤13 then e.IM else e
theorem JC{d:DT}(h:d.Ok)(c:Int):(d.control c).Ok∧(d.control c).abs=d.abs.control c:=by
 have hi:=h.inv.control c;have hf:=h.fit.control h.inv c;have hc1:=h.inv.c1;have e2:d.abs.ah=d.t.ah:=rfl;obtain⟨k,hk,hkc⟩:=h.cl;have key:∀e:DT,e.abs=d.abs.control c→e.d0=d.d0→e.d1=d.d1→e.tb=d.tb→e.ids=d.ids→e.t.ah=d.t.ah→e.Ok∧e.abs=d.abs.control c:=fun e ha a b c' d' e'=>h.of ha hi hf a b c' d' e';unfold control;unfold TS.control at key ⊢;simp only at key ⊢;by_cases h8:c=8
 ·subst h8;simp only[show(8:Int)≤8∧(8:Int)≤13 by decide,if_true,and_self]at key ⊢;refine key _ ?_ rfl rfl rfl rfl rfl;unfold TS.bQ;rw[←vF];rfl
 by_cases h9:c=9
 ·subst h9;simp only[show¬(9:Int)=8 by decide,show(8:Int)≤9∧(9:Int)≤13 by decide,if_true,ou,and_self]at key ⊢;refine key _ ?_ rfl rfl rfl rfl rfl;have hl:(d.tb.take d.t.ah).length=d.t.ah:=h.inv.lt;have hts:=Fy (d.tb.take d.t.ah) (k+1) (by omega) (by omega);rw[hl]at hts;have:(d.sc (fun t=>{t with col:=wi (qp (d.tb.take t.ah) (t.col.toNat+1)) 0 ((t.ah:Int)-1)})).IM.abs= {d.abs.aF with col:=wi (qp (d.tb.take d.t.ah) (d.t.col.toNat+1)) 0 ((d.t.ah:Int)-1)}:=rfl;rw[this,show d.t.col.toNat=k by omega,vF,hts];unfold TS.oV TS.bQ;show _=({d.abs.aF with col:=TS.bg (TS.jH (d.tb.take d.t.ah) (d.t.col.toNat+1)) 0 ((d.t.ah:Int)-1)}:TS);rw[show d.t.col.toNat=k by omega]
 by_cases h10:c=10∨c=11∨c=12
 ·clear key;rw[ak (show 8≤c∧c≤13 by omega),ak (show 8≤c∧c≤13 by omega),ai h8,ai h8,ai h9,ai h9,ak h10,ak h10];refine⟨(uh h.down).1,?_⟩;rw[(uh h.down).2,uO h,vE]
 rw[ai h8,ai h8,ai h9,ai h9,ai h10,ai h10]at*;by_cases h13:c=13
 ·subst h13;simp only[show(8:Int)≤13∧(13:Int)≤13 by decide,if_true,and_self]at key ⊢;refine key _ ?_ rfl rfl rfl rfl rfl;unfold TS.bQ TS.bg;have v:max 0 (min 0 ((d.t.ah:Int)-1))=0:=by omega
  show({d.abs.aF with col:=0}:TS)= {d.abs.aF with col:=max 0 (min 0 ((d.t.ah:Int)-1))};rw[v]
 have hno:¬(8≤c∧c≤13):=by omega
 rw[ai hno,ai hno,ai h13,ai h13]at*;by_cases h14:c=14
 ·subst h14;exact key _ rfl rfl rfl rfl rfl rfl
 by_cases h15:c=15
 ·subst h15;exact key _ rfl rfl rfl rfl rfl rfl
 rw[ai h14,ai h15,ai h14,ai h15]at*;exact⟨h,rfl⟩
end DT
namespace DT
def fresh (rows ah:Nat) (ids:Int):DT:=⟨TS.fresh rows ah,List.replicate rows (List.replicate ah aM),List.replicate rows (List.replicate ah aM),(List.range 40).map fun c=>decide (0<c∧c % 8=0),ids⟩
theorem vH(rows ah:Nat)(ids:Int)(hc:ah≤40):(fresh rows ah ids).abs=TS.fresh rows ah:=by
 unfold abs fresh TS.fresh;have e1:dM (List.replicate rows (List.replicate ah aM))=List.replicate rows (iY ah):=by unfold dM;rw[List.map_replicate,ku];rfl
 have e2:((List.range 40).map fun c=>decide (0<c∧c % 8=0)).take ah=(List.range ah).map fun c=>decide (0<c∧c % 8=0):=by rw[←List.map_take,List.take_range,rT hc]
 simp only[e1,e2]
theorem Ok.fresh{rows ah:Nat}(ids:Int)(hr:1≤rows∧rows≤12)(hc:1≤ah∧ah≤40)(hi:0≤ids):(fresh rows ah ids).Ok:=by
 refine⟨?_,?_,Aa.fresh _ _ _,Aa.fresh _ _ _,hi,by simp[DT.fresh]⟩
 ·rw[vH _ _ _ hc.2];exact TS.Inv.fresh hr hc
 ·rw[vH _ _ _ hc.2];exact TS.Fit.fresh hr
def sj (d:DT):DT:=d.sc fun t=>{t.jf t.saved with waits:=if t.wrap then t.saved.waits else false,row:=if t.saved.origin then wi t.saved.row t.top t.bottom else t.saved.row}
def bare (d:DT) (c:Int):DT:=
 if c=55 then d.sc TS.save else if c=56 then d.sj else if c=68 then d.down.IM else if c=69 then(d.down.IM).sc (fun t=>{t with col:=0})else if c=77 then d.up.IM
 else if c=72 then{d with tb:=d.tb.set d.t.col.toNat true} else if c=99 then fresh d.t.rows d.t.ah d.ids else d
theorem SB{d:DT}(h:d.Ok):(d.sc (fun t=>{t with col:=0})).abs=d.abs.bQ 0:=by
 have hc1:=h.inv.c1;have e2:d.abs.ah=d.t.ah:=rfl;unfold TS.bQ TS.bg;have v:max 0 (min 0 ((d.t.ah:Int)-1))=0:=by omega
 show({d.abs with col:=0}:TS)= {d.abs with col:=max 0 (min 0 ((d.t.ah:Int)-1))};rw[v]
theorem Gl(d:DT):d.sj.abs=d.abs.restore:=by
 unfold sj TS.restore;have e1:(if d.t.wrap then d.t.saved.waits else false)=(d.t.saved.waits&&d.t.wrap):=by cases d.t.wrap<;>simp
 simp only[vF];show({d.abs.jf d.t.saved with waits:=(if d.t.wrap then d.t.saved.waits else false),row:=_}:TS)=_;rw[e1];rfl
theorem Ur{d:DT}(h:d.Ok)(c:Int):(d.bare c).Ok∧(d.bare c).abs=d.abs.bare c:=by
 have hi:=h.inv.bare c;have hf:=h.fit.bare h.inv c;have key:∀e:DT,e.abs=d.abs.bare c→e.d0=d.d0→e.d1=d.d1→e.tb=d.tb→e.ids=d.ids→e.t.ah=d.t.ah→e.Ok∧e.abs=d.abs.bare c:=fun e ha a b c' d' e'=>h.of ha hi hf a b c' d' e';unfold bare;by_cases h1:c=55
 ·subst h1;rw[ak rfl];refine key _ ?_ rfl rfl rfl rfl ?_
  ·unfold TS.bare;rw[ak rfl];unfold sc;by_cases hs:d.t.shown=0
   ·have e1:d.t.save= {d.t with v0:=d.t.spot}:=ak hs;have e2:d.abs.save= {d.abs with v0:=d.abs.spot}:=ak (show d.abs.shown=0 from hs);rw[e1,e2];rfl
   ·have e1:d.t.save= {d.t with v1:=d.t.spot}:=ai hs;have e2:d.abs.save= {d.abs with v1:=d.abs.spot}:=ai (show¬d.abs.shown=0 from hs);rw[e1,e2];rfl
  ·exact congrArg Prod.snd (TS.Qi d.t)
 by_cases h2:c=56
 ·subst h2;rw[ai h1,ak rfl];refine key _ ?_ rfl rfl rfl rfl rfl;unfold TS.bare;rw[ai h1,ak rfl,Gl]
 by_cases h3:c=68
 ·subst h3;rw[ai h1,ai h2,ak rfl];refine⟨(uh h.down).1,?_⟩;unfold TS.bare;rw[ai h1,ai h2,ak rfl,(uh h.down).2,uO h,vE]
 by_cases h4:c=69
 ·subst h4;rw[ai h1,ai h2,ai h3,ak rfl];have k:=uh h.down;have ha:((d.down.IM).sc (fun t=>{t with col:=0})).abs=d.abs.bare 69:=by rw[SB k.1,k.2,uO h];unfold TS.bare;rw[ai h1,ai h2,ai h3,ai (by decide),ak rfl];unfold TS.bE;rw[KW,vE]
  exact k.1.of ha hi hf rfl rfl rfl rfl rfl
 by_cases h5:c=77
 ·subst h5;rw[ai h1,ai h2,ai h3,ai h4,ak rfl];refine⟨(uh h.up).1,?_⟩;unfold TS.bare;rw[ai h1,ai h2,ai h3,ak rfl,(uh h.up).2,PV h,Oy]
 by_cases h6:c=72
 ·subst h6;rw[ai h1,ai h2,ai h3,ai h4,ai h5,ak rfl];have ha:({d with tb:=d.tb.set d.t.col.toNat true}:DT).abs=d.abs.bare 72:=by unfold TS.bare;rw[ai h1,ai h2,ai h3,ai h5,ai h4,ak rfl];show({d.abs with tabs:=(d.tb.set d.t.col.toNat true).take d.t.ah}:TS)= {d.abs with tabs:=(d.tb.take d.t.ah).set d.t.col.toNat true};rw[List.take_set]
  exact⟨⟨ha▸hi,ha▸hf,h.r0,h.r1,h.I7,by show(d.tb.set _ _).length=40;rw[lG];exact h.tl⟩,ha⟩
 by_cases h7:c=99
 ·subst h7;rw[ai h1,ai h2,ai h3,ai h4,ai h5,ai h6,ak rfl];refine⟨Ok.fresh _ ⟨h.inv.r1,h.inv.r2⟩ ⟨h.inv.c1,h.inv.c2⟩ h.I7,?_⟩;rw[vH d.t.rows d.t.ah d.ids h.inv.c2];unfold TS.bare;rw[ai h1,ai h2,ai h3,ai h5,ai h4,ai h6,ak rfl];rfl
 ·rw[ai h1,ai h2,ai h3,ai h4,ai h5,ai h6,ai h7];refine⟨h,?_⟩;unfold TS.bare;rw[ai h1,ai h2,ai h3,ai h5,ai h4,ai h6,ai h7]
def escape (d:DT) (mk c:Int):DT:=
 if mk=0 then d.bare c else if mk=40∧(c=48∨c=66)then d.sc (fun t=>{t with first:=if c=48 then 1 else 0})else if mk=41∧(c=48∨c=66)then d.sc (fun t=>{t with second:=if c=48 then 1 else 0})else d
theorem M9{d:DT}(h:d.Ok)(mk c:Int):(d.escape mk c).Ok∧(d.escape mk c).abs=d.abs.escape mk c:=by
 have hi:=h.inv.escape mk c;have hf:=h.fit.escape h.inv mk c;have key:∀e:DT,e.abs=d.abs.escape mk c→e.d0=d.d0→e.d1=d.d1→e.tb=d.tb→e.ids=d.ids→e.t.ah=d.t.ah→e.Ok∧e.abs=d.abs.escape mk c:=fun e ha a b c' d' e'=>h.of ha hi hf a b c' d' e';unfold escape;by_cases h0:mk=0
 ·subst h0;rw[ak rfl];unfold TS.escape;rw[ak rfl];exact Ur h c
 rw[ai h0];have al:∀b,(c=48∨c=66)→TS.dQ c b=if c=48 then 1 else 0:=fun b hc=>by unfold TS.dQ;rcases hc with rfl|rfl<;>simp
 have al':∀b,¬(c=48∨c=66)→TS.dQ c b=b:=fun b hc=>by unfold TS.dQ;rw[ai (by omega),ai (by omega)]
 by_cases h1:mk=40
 ·subst h1;have he:d.abs.escape 40 c= {d.abs with first:=TS.dQ c d.t.first}:=rfl;by_cases hk:c=48∨c=66
  ·rw[ak ⟨rfl,hk⟩];refine key _ ?_ rfl rfl rfl rfl rfl;rw[he,al _ hk];rfl
  ·rw[ai (fun x=>hk x.2),ai (fun x=>absurd x.1 (by decide))];refine⟨h,?_⟩;rw[he,al' _ hk];rfl
 rw[ai (fun x=>h1 x.1)];by_cases h2:mk=41
 ·subst h2;have he:d.abs.escape 41 c= {d.abs with second:=TS.dQ c d.t.second}:=rfl;by_cases hk:c=48∨c=66
  ·rw[ak ⟨rfl,hk⟩];refine key _ ?_ rfl rfl rfl rfl rfl;rw[he,al _ hk];rfl
  ·rw[ai (fun x=>hk x.2)];refine⟨h,?_⟩;rw[he,al' _ hk];rfl
 rw[ai (fun x=>h2 x.1)];refine⟨h,?_⟩;unfold TS.escape;rw[ai h0,ai h1,ai h2]
end DT
end Go.Proofs.YtheibfffilomcaaGreatDoor
