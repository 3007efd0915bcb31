import Derived.Test.YtheibfffilomcaaGreatDoorTmaU
import Derived.Test.YtheibfffilomcaaGreatDoorUeU
set_option linter.all false
namespace Go.Proofs.YtheibfffilomcaaGreatDoor
namespace DT
def nI (d:DT) (wd:Nat):DT:=if d.t.insert then d.put (pushed d.aP d.t.col.toNat wd)else d
def ED (d:DT) (c:Int) (wd:Nat):DT:={d.put (over d.aP d.t.col.toNat (mQ c d.t.pen wd (d.ids+1)))with ids:=if wd=2 then d.ids+1 else d.ids}
def rG (d:DT) (wd:Nat):DT:=if d.t.col+(wd:Int)<(d.t.ah:Int)then{d with t:={d.t with col:=d.t.col+(wd:Int)}} else{d with t:={d.t with col:=(d.t.ah:Int)-1,waits:=d.t.wrap}}
def fo (d:DT) (c:Int) (wd:Nat):DT:=((d.nI wd).ED c wd).rG wd
theorem qg(d:DT)(r:bY):(d.put r).t=d.t∧(d.put r).tb=d.tb∧(d.put r).ids=d.ids:=d.sD _
theorem EW(d:DT)(wd:Nat):(d.nI wd).t=d.t∧(d.nI wd).tb=d.tb∧(d.nI wd).ids=d.ids:=by unfold nI;split<;>first|exact d.qg _|exact⟨rfl,rfl,rfl⟩
theorem Ah{r:bY}{a:Nat}{q:bY}(h:a+q.length≤r.length):(over r a q).length=r.length:=by
 have hm:∀(l:bY) (p:Option DC),(mend p l).length=l.length:=by
  intro l;induction l with
  |nil=>intro p;rfl
  |cons c l ih=>intro p;rw[mend,fE,ih,fE]
 unfold over;rw[hm];simp;omega
theorem qm{r:bY}{x:List aI}(h:strip r=x):r.length=x.length:=by rw[←h,aU]
theorem Ok.cl{d:DT}(h:d.Ok):∃k:Nat,d.t.col=(k:Int)∧k<d.t.ah:=by have a:=h.inv.jA;have b:=h.inv.jD;exact⟨d.t.col.toNat,by have e:d.abs.col=d.t.col:=rfl;omega,by have e:d.abs.col=d.t.col:=rfl;have e2:d.abs.ah=d.t.ah:=rfl;omega⟩
theorem EU{d:DT}(h:d.Ok)(wd:Nat)(hwd:1≤wd):(d.nI wd).Ok∧(d.nI wd).abs=if d.abs.insert then d.abs.kV wd else d.abs:=by
 obtain⟨k,hk,hkc⟩:=h.cl;have hp:=DU h.I7 h.rn.1 (a:=d.t.col.toNat) (n:=wd) (by rw[h.rn.2];omega) hwd;unfold nI;show _∧_=if d.t.insert=true then _ else _;split
 ·have ha:(d.put (pushed d.aP d.t.col.toNat wd)).abs=d.abs.kV wd:=by rw[Ev,hp.1];unfold TS.kV;rw[lJ];rfl
  refine⟨h.put ⟨hp.2,?_⟩ ?_,ha⟩
  ·rw[qm hp.1,lW _ _ _ (by rw[aU,h.rn.2];omega),aU,h.rn.2]
  ·rw[ha];exact h.fit.ins h.inv wd
 ·exact⟨h,rfl⟩
theorem Xy{d:DT}(h:d.Ok)(c:Int)(wd:Nat)(hwd:wd=1∨wd=2)(hc:d.t.col+(wd:Int)≤(d.t.ah:Int))(hs:zh c)(hw:j_ c=wd):(d.ED (d.abs.spelt c) wd).Ok∧(d.ED (d.abs.spelt c) wd).abs=d.abs.kG c wd:=by
 obtain⟨k,hk,hkc⟩:=h.cl;have hp:=Rk h.I7 h.rn.1 (a:=d.t.col.toNat) (d.abs.spelt c) d.t.pen wd hwd (by rw[h.rn.2];omega);have ha:(d.ED (d.abs.spelt c) wd).abs=d.abs.kG c wd:=by unfold ED;have:({d.put (over d.aP d.t.col.toNat (mQ (d.abs.spelt c) d.t.pen wd (d.ids+1)))with ids:=if wd=2 then d.ids+1 else d.ids}:DT).abs=(d.put (over d.aP d.t.col.toNat (mQ (d.abs.spelt c) d.t.pen wd (d.ids+1)))).abs:=rfl;rw[this,Ev,hp.1];unfold TS.kG;rw[lJ];rfl
 refine⟨?_,ha⟩;have hl:(over d.aP d.t.col.toNat (mQ (d.abs.spelt c) d.t.pen wd (d.ids+1))).length=d.t.ah:=by rw[qm hp.1,rD,aU,h.rn.2]
 have hN:d.ids≤(if wd=2 then d.ids+1 else d.ids):=by split<;>omega
 have hset:Aa (if wd=2 then d.ids+1 else d.ids) d.t.ah (d.cur.set d.t.row.toNat (over d.aP d.t.col.toNat (mQ (d.abs.spelt c) d.t.pen wd (d.ids+1)))):=(h.rc.mono hN).set _ ⟨hp.2,hl⟩;have hinv:(d.ED (d.abs.spelt c) wd).abs.Inv:=by rw[ha];exact h.inv.aN _
 have hfit:(d.ED (d.abs.spelt c) wd).abs.Fit:=by rw[ha];exact h.fit.put h.inv c wd hs hw hwd hc
 refine⟨hinv,hfit,?_,?_,Int.le_trans h.I7 hN,?_⟩
 ·unfold ED put DT.setCur;split<;>first|exact hset|exact h.r0.mono hN
 ·unfold ED put DT.setCur;split<;>first|exact hset|exact h.r1.mono hN
 ·show(d.put _).tb.length=40;rw[(d.qg _).2.1];exact h.tl
theorem DR{d:DT}(h:d.Ok)(c:Int)(wd:Nat)(hwd:wd=1∨wd=2)(hc:d.t.col+(wd:Int)≤(d.t.ah:Int))(hs:zh c)(hw:j_ c=wd)(hn:d.t.waits=false):(d.fo (d.abs.spelt c) wd).Ok∧(d.fo (d.abs.spelt c) wd).abs=d.abs.fo c wd:=by
 have hI:=EU h wd (by omega);have ht:=(d.EW wd).1;have hsp:(d.nI wd).abs.spelt c=d.abs.spelt c:=by unfold TS.spelt;show(if(if(d.nI wd).t.use=1 then(d.nI wd).t.second else(d.nI wd).t.first)=1 then _ else _)=_;rw[ht];rfl
 have hC:=Xy hI.1 c wd hwd (by rw[ht];exact hc) hs hw;rw[hsp]at hC;have hct:((d.nI wd).ED (d.abs.spelt c) wd).t=d.t:=((d.nI wd).qg _).1.trans ht;have ha:(d.fo (d.abs.spelt c) wd).abs=d.abs.fo c wd:=by
  unfold fo TS.fo;rw[←hI.2, ←hC.2];generalize hX:(d.nI wd).ED (d.abs.spelt c) wd=X at*;unfold rG TS.step TS.bQ TS.bg;obtain⟨k,hk,hkc⟩:=h.cl;have e1:X.abs.col=X.t.col:=rfl;have e2:X.abs.ah=X.t.ah:=rfl;have e3:X.abs.waits=X.t.waits:=rfl;have e4:X.abs.wrap=X.t.wrap:=rfl;rw[←hct]at hk hkc hc hn;split
  ·rename_i hlt;have v1:max 0 (min (X.t.col+(wd:Int)) ((X.t.ah:Int)-1))=X.t.col+(wd:Int):=by omega
   have v2:(X.t.wrap&&decide ((X.t.ah:Int)-1<X.t.col+(wd:Int)))=X.t.waits:=by rw[jh (by omega),hn];simp
   show({X.abs with col:=X.t.col+(wd:Int),waits:=X.t.waits}:TS)= {X.abs with col:=max 0 (min (X.t.col+(wd:Int)) ((X.t.ah:Int)-1)),waits:=X.t.wrap&&decide ((X.t.ah:Int)-1<X.t.col+(wd:Int))};rw[v1,v2]
  ·rename_i hlt;have v1:max 0 (min (X.t.col+(wd:Int)) ((X.t.ah:Int)-1))=(X.t.ah:Int)-1:=by omega
   have v2:(X.t.wrap&&decide ((X.t.ah:Int)-1<X.t.col+(wd:Int)))=X.t.wrap:=by rw[iP (by omega)];simp
   show({X.abs with col:=(X.t.ah:Int)-1,waits:=X.t.wrap}:TS)= {X.abs with col:=max 0 (min (X.t.col+(wd:Int)) ((X.t.ah:Int)-1)),waits:=X.t.wrap&&decide ((X.t.ah:Int)-1<X.t.col+(wd:Int))};rw[v1,v2]
 have hinv:=h.inv.fo c wd;have hfit:=h.fit.fo h.inv c wd hs hw hwd hc;rw[←ha]at hinv hfit;refine⟨?_,ha⟩
 revert hinv hfit
 unfold fo rG;split
 ·intro hinv hfit;exact hC.1.Ij hinv hfit rfl rfl rfl rfl rfl
 ·intro hinv hfit;exact hC.1.Ij hinv hfit rfl rfl rfl rfl rfl
def pO (d:DT):DT:=DT.down {d with t:={d.t with waits:=false,col:=0}}
def print (d:DT) (c:Int) (wd:Nat):DT:=
 if wd=0∨wd=2∧d.t.ah=1 then d
 else if d.t.waits=true∨(wd=2∧d.t.col=(d.t.ah:Int)-1)∧d.t.wrap=true then d.pO.fo (d.abs.spelt c) wd
 else if wd=2∧d.t.col=(d.t.ah:Int)-1 then d
 else d.fo (d.abs.spelt c) wd
theorem E5{d:DT}(h:d.Ok):d.pO.Ok∧d.pO.abs=d.abs.aF.bE:=by
 have hu:({d with t:={d.t with waits:=false,col:=0}}:DT).abs=d.abs.aF.bQ 0:=by
  unfold TS.bQ TS.bg;have hc:=h.inv.c1;have e2:d.abs.ah=d.t.ah:=rfl;have v:max 0 (min 0 ((d.t.ah:Int)-1))=0:=by omega
  show({d.abs with waits:=false,col:=0}:TS)= {d.abs with waits:=false,col:=max 0 (min 0 ((d.t.ah:Int)-1))};rw[v]
 have k:({d with t:={d.t with waits:=false,col:=0}}:DT).Ok:=by
  refine h.Ij ?_ ?_ rfl rfl rfl rfl rfl
  ·rw[hu];exact h.inv.aF.bQ 0
  ·rw[hu];exact h.fit.aF.bQ rfl 0
 exact⟨k.down,by unfold pO;rw[uO k,hu];rfl⟩
theorem JJ(d:DT):d.down.t.waits=d.t.waits∧d.down.t.col=d.t.col∧d.down.t.ah=d.t.ah:=by
 unfold down;split
 ·unfold fI;rw[(d.sD _).1];exact⟨rfl,rfl,rfl⟩
 ·split<;>exact⟨rfl,rfl,rfl⟩
theorem UD(s:TS)(c:Int):s.down.spelt c=s.spelt c:=by
 unfold TS.down;split
 ·unfold TS.gQ;exact TS.Fs _ _ _
 ·rfl
theorem Ro{d:DT}(h:d.Ok)(c:Int)(hs:zh c):(d.print c (j_ c).toNat).Ok∧(d.print c (j_ c).toNat).abs=d.abs.print c (j_ c).toNat:=by
 have hw:=uk c;obtain⟨wd,hwd⟩:∃wd:Nat,j_ c=(wd:Int):=⟨(j_ c).toNat,by omega⟩;rw[hwd,lF];obtain⟨k,hk,hkc⟩:=h.cl;have hN:=E5 h;have ae4:d.pO.abs.spelt c=d.abs.spelt c:=by rw[hN.2];unfold TS.bE;rw[UD];rfl
 have hnt:=DT.JJ {d with t:={d.t with waits:=false,col:=0}};unfold print TS.print;have c1:(wd=0∨d.abs.ah<wd)↔(wd=0∨wd=2∧d.t.ah=1):=by have e2:d.abs.ah=d.t.ah:=rfl;omega
 by_cases h1:wd=0∨wd=2∧d.t.ah=1
 ·rw[ak h1,ak (c1.2 h1)];exact⟨h,rfl⟩
 rw[ai h1,ai (fun x=>h1 (c1.1 x))];have hwd2:wd=1∨wd=2:=by omega
 have N2:=fun(hc:d.pO.t.col+(wd:Int)≤(d.pO.t.ah:Int))=>DR hN.1 c wd hwd2 hc hs hwd hnt.1;rw[ae4]at N2;have hnc:d.pO.t.col=0:=hnt.2.1;have ae3:d.pO.t.ah=d.t.ah:=hnt.2.2;by_cases hwt:d.t.waits=true
 ·rw[ak (.inl hwt)];have hp1:d.abs.gH=d.pO.abs:=by unfold TS.gH;rw[ak (show d.abs.waits=true from hwt),hN.2]
  have hcc:d.pO.abs.col=0:=hnc;have hcs:d.pO.abs.ah=d.t.ah:=ae3;have e2:d.abs.ah=d.t.ah:=rfl;rw[hp1,ai (by rw[hcc];omega)];exact N2 (by omega)
 ·have hwf:d.t.waits=false:=by simpa using hwt
  have hp1:d.abs.gH=d.abs:=by unfold TS.gH;rw[ai (show¬d.abs.waits=true from hwt)]
  rw[hp1];have e1:d.abs.col=d.t.col:=rfl;have e2:d.abs.ah=d.t.ah:=rfl;have hun:d.abs.aF=d.abs:=by unfold TS.aF;rw[←hwf];rfl
  by_cases ht:wd=2∧d.t.col=(d.t.ah:Int)-1
  ·rw[ak (show(d.abs.ah:Int)<d.abs.col+(wd:Int) by omega)];by_cases hwr:d.t.wrap=true
   ·rw[ak (.inr ⟨ht,hwr⟩),ak (show d.abs.wrap=true from hwr)];have:=N2 (by omega);rw[hN.2,hun]at this;exact this
   ·rw[ai (by rintro(x|⟨_,x⟩);exact hwt x;exact hwr x),ak ht,ai (show¬d.abs.wrap=true from hwr)];exact⟨h,rfl⟩
  ·rw[ai (by rintro(x|⟨x,_⟩);exact hwt x;exact ht x),ai ht,ai (show¬(d.abs.ah:Int)<d.abs.col+(wd:Int) by omega)];exact DR h c wd hwd2 (by omega) hs hwd hwf
end DT
theorem vE(s:TS):s.aF.down=s.down.aF:=by
 unfold TS.down;show(if s.row=s.bottom then _ else _)=TS.aF (if s.row=s.bottom then _ else _);split
 ·unfold TS.gQ TS.setCur;show(if s.shown=0 then _ else _)=TS.aF (if s.shown=0 then _ else _);split<;>rfl
 ·rfl
theorem Oy(s:TS):s.aF.up=s.up.aF:=by
 unfold TS.up;show(if s.row=s.top then _ else _)=TS.aF (if s.row=s.top then _ else _);split
 ·unfold TS.h_ TS.setCur;show(if s.shown=0 then _ else _)=TS.aF (if s.shown=0 then _ else _);split<;>rfl
 ·rfl
theorem KW(s:TS)(c:Int):(s.bQ c).down=s.down.bQ c:=by
 unfold TS.down;show(if s.row=s.bottom then _ else _)=TS.bQ (if s.row=s.bottom then _ else _) c;split
 ·unfold TS.gQ TS.setCur;show(if s.shown=0 then _ else _)=TS.bQ (if s.shown=0 then _ else _) c;split<;>rfl
 ·rfl
namespace DT
def sc (d:DT) (f:TS→TS):DT:={d with t:=f d.t}
def IM (d:DT):DT:={d with t:=d.t.aF}
theorem uh{d:DT}(h:d.Ok):d.IM.Ok∧d.IM.abs=d.abs.aF:=⟨h.Ij h.inv.aF h.fit.aF rfl rfl rfl rfl rfl,rfl⟩
theorem Ok.of{d e:DT}(h:d.Ok){s:TS}(ha:e.abs=s)(hi:s.Inv)(hf:s.Fit)(e0:e.d0=d.d0)(e1:e.d1=d.d1)(et:e.tb=d.tb)(ei:e.ids=d.ids)(ec:e.t.ah=d.t.ah):e.Ok∧e.abs=s:=
 ⟨h.Ij (ha▸hi) (ha▸hf) e0 e1 et ei ec,ha⟩
def qp (l:List Bool) (c:Nat):Nat:=c+(l.drop c).findIdx id
theorem Fy(l:List Bool)(c:Nat)(hc:c≤l.length)(hl:1≤l.length):TS.bg (qp l c) 0 ((l.length:Int)-1)=TS.bg (TS.jH l c) 0 ((l.length:Int)-1):=by
 unfold qp TS.jH;rw[List.findIdx?_eq_guard_findIdx_lt];by_cases h:(l.drop c).findIdx id<(l.drop c).length
 ·rw[Option.guard_eq_some_iff.2 ⟨rfl,by simpa using h⟩];show TS.bg ((c+_:Nat):Int) _ _=_;rw[Int.natCast_add]
 ·have hle:(l.drop c).findIdx id=(l.drop c).length:=by have:=List.findIdx_le_length (xs:=l.drop c) (p:=id);omega
  rw[show(Option.guard (fun i=>decide (i<(l.drop c).length)) ((l.drop c).findIdx id))=none by simp only[Option.guard];rw[ai (by simpa using h)]];rw[hle,o8];unfold TS.bg;show max 0 (min (((c+(l.length-c):Nat):Int)) _)=max 0 (min ((l.length:Int)-1) _);omega
def control (d:DT) (c:Int):DT:=
 let e:DT:=if c=8 then d.sc (fun t=>{t with col:=wi (t.col-1) 0 ((t.ah:Int)-1)})else if c=9 then d.sc (fun t=>{t with col:=wi (qp (d.tb.take t.ah) (t.col.toNat+1)) 0 ((t.ah:Int)-1)})
  else if c=10∨c=11∨c=12 then d.down else if c=13 then d.sc (fun t=>{t with col:=0})else if c=14 then d.sc (fun t=>{t with use:=1})else if c=15 then d.sc (fun t=>{t with use:=0})else d
 if 8≤c∧c≤13 then e.IM else e
theorem JC{d:DT}(h:d.Ok)(c:Int):(d.control c).Ok∧(d.control c).abs=d.abs.control c:=by
 have hi:=h.inv.control c;have hf:=h.fit.control h.inv c;have hc1:=h.inv.c1;have e2:d.abs.ah=d.t.ah:=rfl;obtain⟨k,hk,hkc⟩:=h.cl;have key:∀e:DT,e.abs=d.abs.control c→e.d0=d.d0→e.d1=d.d1→e.tb=d.tb→e.ids=d.ids→e.t.ah=d.t.ah→e.Ok∧e.abs=d.abs.control c:=fun e ha a b c' d' e'=>h.of ha hi hf a b c' d' e';unfold control;unfold TS.control at key ⊢;simp only at key ⊢;by_cases h8:c=8
 ·subst h8;simp only[show(8:Int)≤8∧(8:Int)≤13 by decide,if_true,and_self]at key ⊢;refine key _ ?_ rfl rfl rfl rfl rfl;unfold TS.bQ;rw[←vF];rfl
 by_cases h9:c=9
 ·subst h9;simp only[show¬(9:Int)=8 by decide,show(8:Int)≤9∧(9:Int)≤13 by decide,if_true,ou,and_self]at key ⊢;refine key _ ?_ rfl rfl rfl rfl rfl;have hl:(d.tb.take d.t.ah).length=d.t.ah:=h.inv.lt;have hts:=Fy (d.tb.take d.t.ah) (k+1) (by omega) (by omega);rw[hl]at hts;have:(d.sc (fun t=>{t with col:=wi (qp (d.tb.take t.ah) (t.col.toNat+1)) 0 ((t.ah:Int)-1)})).IM.abs= {d.abs.aF with col:=wi (qp (d.tb.take d.t.ah) (d.t.col.toNat+1)) 0 ((d.t.ah:Int)-1)}:=rfl;rw[this,show d.t.col.toNat=k by omega,vF,hts];unfold TS.oV TS.bQ;show _=({d.abs.aF with col:=TS.bg (TS.jH (d.tb.take d.t.ah) (d.t.col.toNat+1)) 0 ((d.t.ah:Int)-1)}:TS);rw[show d.t.col.toNat=k by omega]
 by_cases h10:c=10∨c=11∨c=12
 ·clear key;rw[ak (show 8≤c∧c≤13 by omega),ak (show 8≤c∧c≤13 by omega),ai h8,ai h8,ai h9,ai h9,ak h10,ak h10];refine⟨(uh h.down).1,?_⟩;rw[(uh h.down).2,uO h,vE]
 rw[ai h8,ai h8,ai h9,ai h9,ai h10,ai h10]at*;by_cases h13:c=13
 ·subst h13;simp only[show(8:Int)≤13∧(13:Int)≤13 by decide,if_true,and_self]at key ⊢;refine key _ ?_ rfl rfl rfl rfl rfl;unfold TS.bQ TS.bg;have v:max 0 (min 0 ((d.t.ah:Int)-1))=0:=by omega
  show({d.abs.aF with col:=0}:TS)= {d.abs.aF with col:=max 0 (min 0 ((d.t.ah:Int)-1))};rw[v]
 have hno:¬(8≤c∧c≤13):=by omega
 rw[ai hno,ai hno,ai h13,ai h13]at*;by_cases h14:c=14
 ·subst h14;exact key _ rfl rfl rfl rfl rfl rfl
 by_cases h15:c=15
 ·subst h15;exact key _ rfl rfl rfl rfl rfl rfl
 rw[ai h14,ai h15,ai h14,ai h15]at*;exact⟨h,rfl⟩
end DT
namespace DT
def fresh (rows ah:Nat) (ids:Int):DT:=⟨TS.fresh rows ah,List.replicate rows (List.replicate ah aM),List.replicate rows (List.replicate ah aM),(List.range 40).map fun c=>decide (0<c∧c % 8=0),ids⟩
theorem vH(rows ah:Nat)(ids:Int)(hc:ah≤40):(fresh rows ah ids).abs=TS.fresh rows ah:=by
 unfold abs fresh TS.fresh;have e1:dM (List.replicate rows (List.replicate ah aM))=List.replicate rows (iY ah):=by unfold dM;rw[List.map_replicate,ku];rfl
 have e2:((List.range 40).map fun c=>decide (0<c∧c % 8=0)).take ah=(List.range ah).map fun c=>decide (0<c∧c % 8=0):=by rw[←List.map_take,List.take_range,rT hc]
 simp only[e1,e2]
theorem Ok.fresh{rows ah:Nat}(ids:Int)(hr:1≤rows∧rows≤12)(hc:1≤ah∧ah≤40)(hi:0≤ids):(fresh rows ah ids).Ok:=by
 refine⟨?_,?_,Aa.fresh _ _ _,Aa.fresh _ _ _,hi,by simp[DT.fresh]⟩
 ·rw[vH _ _ _ hc.2];exact TS.Inv.fresh hr hc
 ·rw[vH _ _ _ hc.2];exact TS.Fit.fresh hr
def sj (d:DT):DT:=d.sc fun t=>{t.jf t.saved with waits:=if t.wrap then t.saved.waits else false,row:=if t.saved.origin then wi t.saved.row t.top t.bottom else t.saved.row}
def bare (d:DT) (c:Int):DT:=
 if c=55 then d.sc TS.save else if c=56 then d.sj else if c=68 then d.down.IM else if c=69 then(d.down.IM).sc (fun t=>{t with col:=0})else if c=77 then d.up.IM
 else if c=72 then{d with tb:=d.tb.set d.t.col.toNat true} else if c=99 then fresh d.t.rows d.t.ah d.ids else d
theorem I1{d:DT}(h:d.Ok):(d.sc (fun t=>{t with col:=0})).abs=d.abs.bQ 0:=by
 have hc1:=h.inv.c1;have e2:d.abs.ah=d.t.ah:=rfl;unfold TS.bQ TS.bg;have v:max 0 (min 0 ((d.t.ah:Int)-1))=0:=by omega
 show({d.abs with col:=0}:TS)= {d.abs with col:=max 0 (min 0 ((d.t.ah:Int)-1))};rw[v]
theorem Gl(d:DT):d.sj.abs=d.abs.restore:=by
 unfold sj TS.restore;have e1:(if d.t.wrap then d.t.saved.waits else false)=(d.t.saved.waits&&d.t.wrap):=by cases d.t.wrap<;>simp
 simp only[vF];show({d.abs.jf d.t.saved with waits:=(if d.t.wrap then d.t.saved.waits else false),row:=_}:TS)=_;rw[e1];rfl
theorem Ur{d:DT}(h:d.Ok)(c:Int):(d.bare c).Ok∧(d.bare c).abs=d.abs.bare c:=by
 have hi:=h.inv.bare c;have hf:=h.fit.bare h.inv c;have key:∀e:DT,e.abs=d.abs.bare c→e.d0=d.d0→e.d1=d.d1→e.tb=d.tb→e.ids=d.ids→e.t.ah=d.t.ah→e.Ok∧e.abs=d.abs.bare c:=fun e ha a b c' d' e'=>h.of ha hi hf a b c' d' e';unfold bare;by_cases h1:c=55
 ·subst h1;rw[ak rfl];refine key _ ?_ rfl rfl rfl rfl ?_
  ·unfold TS.bare;rw[ak rfl];unfold sc;by_cases hs:d.t.shown=0
   ·have e1:d.t.save= {d.t with v0:=d.t.spot}:=ak hs;have e2:d.abs.save= {d.abs with v0:=d.abs.spot}:=ak (show d.abs.shown=0 from hs);rw[e1,e2];rfl
   ·have e1:d.t.save= {d.t with v1:=d.t.spot}:=ai hs;have e2:d.abs.save= {d.abs with v1:=d.abs.spot}:=ai (show¬d.abs.shown=0 from hs);rw[e1,e2];rfl
  ·exact congrArg Prod.snd (TS.Qi d.t)
 by_cases h2:c=56
 ·subst h2;rw[ai h1,ak rfl];refine key _ ?_ rfl rfl rfl rfl rfl;unfold TS.bare;rw[ai h1,ak rfl,Gl]
 by_cases h3:c=68
 ·subst h3;rw[ai h1,ai h2,ak rfl];refine⟨(uh h.down).1,?_⟩;unfold TS.bare;rw[ai h1,ai h2,ak rfl,(uh h.down).2,uO h,vE]
 by_cases h4:c=69
 ·subst h4;rw[ai h1,ai h2,ai h3,ak rfl];have k:=uh h.down;have ha:((d.down.IM).sc (fun t=>{t with col:=0})).abs=d.abs.bare 69:=by rw[I1 k.1,k.2,uO h];unfold TS.bare;rw[ai h1,ai h2,ai h3,ai (by decide),ak rfl];unfold TS.bE;rw[KW,vE]
  exact k.1.of ha hi hf rfl rfl rfl rfl rfl
 by_cases h5:c=77
 ·subst h5;rw[ai h1,ai h2,ai h3,ai h4,ak rfl];refine⟨(uh h.up).1,?_⟩;unfold TS.bare;rw[ai h1,ai h2,ai h3,ak rfl,(uh h.up).2,PV h,Oy]
 by_cases h6:c=72
 ·subst h6;rw[ai h1,ai h2,ai h3,ai h4,ai h5,ak rfl];have ha:({d with tb:=d.tb.set d.t.col.toNat true}:DT).abs=d.abs.bare 72:=by unfold TS.bare;rw[ai h1,ai h2,ai h3,ai h5,ai h4,ak rfl];show({d.abs with tabs:=(d.tb.set d.t.col.toNat true).take d.t.ah}:TS)= {d.abs with tabs:=(d.tb.take d.t.ah).set d.t.col.toNat true};rw[List.take_set]
  exact⟨⟨ha▸hi,ha▸hf,h.r0,h.r1,h.I7,by show(d.tb.set _ _).length=40;rw[lG];exact h.tl⟩,ha⟩
 by_cases h7:c=99
 ·subst h7;rw[ai h1,ai h2,ai h3,ai h4,ai h5,ai h6,ak rfl];refine⟨Ok.fresh _ ⟨h.inv.r1,h.inv.r2⟩ ⟨h.inv.c1,h.inv.c2⟩ h.I7,?_⟩;rw[vH d.t.rows d.t.ah d.ids h.inv.c2];unfold TS.bare;rw[ai h1,ai h2,ai h3,ai h5,ai h4,ai h6,ak rfl];rfl
 ·rw[ai h1,ai h2,ai h3,ai h4,ai h5,ai h6,ai h7];refine⟨h,?_⟩;unfold TS.bare;rw[ai h1,ai h2,ai h3,ai h5,ai h4,ai h6,ai h7]
def escape (d:DT) (mk c:Int):DT:=
 if mk=0 then d.bare c else if mk=40∧(c=48∨c=66)then d.sc (fun t=>{t with first:=if c=48 then 1 else 0})else if mk=41∧(c=48∨c=66)then d.sc (fun t=>{t with second:=if c=48 then 1 else 0})else d
theorem M9{d:DT}(h:d.Ok)(mk c:Int):(d.escape mk c).Ok∧(d.escape mk c).abs=d.abs.escape mk c:=by
 have hi:=h.inv.escape mk c;have hf:=h.fit.escape h.inv mk c;have key:∀e:DT,e.abs=d.abs.escape mk c→e.d0=d.d0→e.d1=d.d1→e.tb=d.tb→e.ids=d.ids→e.t.ah=d.t.ah→e.Ok∧e.abs=d.abs.escape mk c:=fun e ha a b c' d' e'=>h.of ha hi hf a b c' d' e';unfold escape;by_cases h0:mk=0
 ·subst h0;rw[ak rfl];unfold TS.escape;rw[ak rfl];exact Ur h c
 rw[ai h0];have al:∀b,(c=48∨c=66)→TS.dQ c b=if c=48 then 1 else 0:=fun b hc=>by unfold TS.dQ;rcases hc with rfl|rfl<;>simp
 have al':∀b,¬(c=48∨c=66)→TS.dQ c b=b:=fun b hc=>by unfold TS.dQ;rw[ai (by omega),ai (by omega)]
 by_cases h1:mk=40
 ·subst h1;have he:d.abs.escape 40 c= {d.abs with first:=TS.dQ c d.t.first}:=rfl;by_cases hk:c=48∨c=66
  ·rw[ak ⟨rfl,hk⟩];refine key _ ?_ rfl rfl rfl rfl rfl;rw[he,al _ hk];rfl
  ·rw[ai (fun x=>hk x.2),ai (fun x=>absurd x.1 (by decide))];refine⟨h,?_⟩;rw[he,al' _ hk];rfl
 rw[ai (fun x=>h1 x.1)];by_cases h2:mk=41
 ·subst h2;have he:d.abs.escape 41 c= {d.abs with second:=TS.dQ c d.t.second}:=rfl;by_cases hk:c=48∨c=66
  ·rw[ak ⟨rfl,hk⟩];refine key _ ?_ rfl rfl rfl rfl rfl;rw[he,al _ hk];rfl
  ·rw[ai (fun x=>hk x.2)];refine⟨h,?_⟩;rw[he,al' _ hk];rfl
 rw[ai (fun x=>h2 x.1)];refine⟨h,?_⟩;unfold TS.escape;rw[ai h0,ai h1,ai h2]
end DT
namespace DT
def to (d:DT) (r c:Int):DT:=d.sc fun t=>{t with col:=wi c 0 ((t.ah:Int)-1),row:=if t.origin then wi (t.top+r) t.top t.bottom else wi r 0 ((t.rows:Int)-1),waits:=false}
theorem qI(s:TS)(r:Int):s.bJ r= {s with row:=if s.origin then TS.bg (s.top+r) s.top s.bottom else TS.bg r 0 ((s.rows:Int)-1)}:=by
 unfold TS.bJ TS.nD;by_cases h:s.origin=true
 ·rw[ak h,ak h]
 ·rw[ai h,ai h]
theorem Ew(d:DT)(r c:Int):(d.to r c).abs=((d.abs.bJ r).bQ c).aF:=by rw[qI];unfold to TS.bQ TS.aF;simp only[vF];rfl
def mv (d:DT) (r c:Int):DT:=d.sc fun t=>{t with row:=wi r 0 ((t.rows:Int)-1),col:=wi c 0 ((t.ah:Int)-1),waits:=false}
def qZ (f:Int):Bool:=decide (f=65∨f=66∨f=67∨f=68∨f=71∨f=100∨f=72∨f=102)
def moves (d:DT) (f n m:Int):DT:=
 if f=65 then d.mv (if d.t.top≤d.t.row∧d.t.row-n<d.t.top then d.t.top else d.t.row-n) d.t.col
 else if f=66 then d.mv (if d.t.row≤d.t.bottom∧d.t.bottom<d.t.row+n then d.t.bottom else d.t.row+n) d.t.col
 else if f=67 then d.mv d.t.row (d.t.col+n)else if f=68 then d.mv d.t.row (d.t.col-n)else if f=71 then d.mv d.t.row (n-1)
 else if f=100 then d.to (n-1) d.t.col else if f=72∨f=102 then d.to (n-1) (m-1)else d
theorem J_(d:DT)(r c:Int):(d.mv r c).abs= {d.abs with row:=TS.bg r 0 ((d.t.rows:Int)-1),col:=TS.bg c 0 ((d.t.ah:Int)-1),waits:=false}:=by unfold mv;simp only[vF];rfl
theorem Ka(d:DT)(h:d.Ok)(c:Int):(d.mv d.t.row c).abs=d.abs.aF.bQ c:=by
 have a1:=h.inv.r1;have a3:=h.inv.row0;have a4:=h.inv.jK;have e1:d.abs.rows=d.t.rows:=rfl;have e3:d.abs.row=d.t.row:=rfl;have v:TS.bg d.t.row 0 ((d.t.rows:Int)-1)=d.t.row:=by unfold TS.bg;omega
 rw[J_,v];rfl
theorem Rh{d:DT}(h:d.Ok)(f p q:Int)(hf:qZ f=true):(d.moves f (TS.times p) (TS.times q)).Ok∧(d.moves f (TS.times p) (TS.times q)).abs=d.abs.aF.move f p q:=by
 have hi:=h.inv.aF.move f p q;have hft:=h.fit.aF.move h.inv.aF f p q (fun _=>rfl);have hst:∀e:DT,e.abs=d.abs.aF.move f p q→e.d0=d.d0→e.d1=d.d1→e.tb=d.tb→e.ids=d.ids→e.t.ah=d.t.ah→e.Ok∧e.abs=d.abs.aF.move f p q:=fun e ha a b c' d' e'=>h.of ha hi hft a b c' d' e';have hn:=TS.xN p;have a1:=h.inv.r1;have a2:=h.inv.c1;have a3:=h.inv.row0;have a4:=h.inv.jK;have a5:=h.inv.jA;have a6:=h.inv.jD;have a7:=h.inv.iO;have a8:=h.inv.tb;have a9:=h.inv.bot;have e1:d.abs.rows=d.t.rows:=rfl;have e2:d.abs.ah=d.t.ah:=rfl;have e3:d.abs.row=d.t.row:=rfl;have e4:d.abs.col=d.t.col:=rfl;have e5:d.abs.top=d.t.top:=rfl;have e6:d.abs.bottom=d.t.bottom:=rfl;rw[e1]at a1 a4 a9;rw[e2]at a2 a6;rw[e3]at a3 a4;rw[e4]at a5 a6;rw[e5]at a7 a8;rw[e6]at a8 a9;have v2:TS.bg d.t.col 0 ((d.t.ah:Int)-1)=d.t.col:=by unfold TS.bg;omega
 unfold moves;by_cases h65:f=65
 ·subst h65;rw[ak rfl];refine hst _ ?_ rfl rfl rfl rfl rfl;have v1:TS.bg (if d.t.top≤d.t.row∧d.t.row-TS.times p<d.t.top then d.t.top else d.t.row-TS.times p) 0 ((d.t.rows:Int)-1)=max (d.t.row-TS.times p) (if d.t.top≤d.t.row then d.t.top else 0):=by
   unfold TS.bg;by_cases k1:d.t.top≤d.t.row
   ·rw[ak k1];by_cases k2:d.t.row-TS.times p<d.t.top
    ·rw[ak ⟨k1,k2⟩];omega
    ·rw[ai (fun x=>k2 x.2)];omega
   ·rw[ai (fun x=>k1 x.1),ai k1];omega
  rw[J_,v1,v2];rfl
 rw[ai h65];by_cases h66:f=66
 ·subst h66;rw[ak rfl];refine hst _ ?_ rfl rfl rfl rfl rfl;have v1:TS.bg (if d.t.row≤d.t.bottom∧d.t.bottom<d.t.row+TS.times p then d.t.bottom else d.t.row+TS.times p) 0 ((d.t.rows:Int)-1)=min (d.t.row+TS.times p) (if d.t.row≤d.t.bottom then d.t.bottom else(d.t.rows:Int)-1):=by
   unfold TS.bg;by_cases k1:d.t.row≤d.t.bottom
   ·rw[ak k1];by_cases k2:d.t.bottom<d.t.row+TS.times p
    ·rw[ak ⟨k1,k2⟩];omega
    ·rw[ai (fun x=>k2 x.2)];omega
   ·rw[ai (fun x=>k1 x.1),ai k1];omega
  rw[J_,v1,v2];rfl
 rw[ai h66];by_cases h67:f=67
 ·subst h67;rw[ak rfl];exact hst _ (Ka d h _) rfl rfl rfl rfl rfl
 rw[ai h67];by_cases h68:f=68
 ·subst h68;rw[ak rfl];exact hst _ (Ka d h _) rfl rfl rfl rfl rfl
 rw[ai h68];by_cases h71:f=71
 ·subst h71;rw[ak rfl];exact hst _ (Ka d h _) rfl rfl rfl rfl rfl
 rw[ai h71];by_cases h100:f=100
 ·subst h100;rw[ak rfl];refine hst _ ?_ rfl rfl rfl rfl rfl;rw[Ew];have:d.abs.aF.move 100 p q=d.abs.aF.bJ (TS.times p-1):=rfl;rw[this,qI,qI];unfold TS.bQ;show({d.abs with row:=_,col:=TS.bg d.t.col 0 ((d.t.ah:Int)-1),waits:=false}:TS)=_;rw[v2];rfl
 rw[ai h100];by_cases h72:f=72∨f=102
 ·rw[ak h72];refine hst _ ?_ rfl rfl rfl rfl rfl;rw[Ew];have:d.abs.aF.move f p q=(d.abs.aF.bJ (TS.times p-1)).bQ (TS.times q-1):=by unfold TS.move;rw[ai h65,ai h66,ai h67,ai h68,ai h71,ai h100,ak h72]
  rw[this,qI,qI];rfl
 ·exfalso;simp only[qZ,AR]at hf;omega
def pK (from' ah i:Nat):Nat:=min (from'-i*ah) ah
def fq (S:cz) (a b ah:Nat):Nat→cz
 | 0=>S
 |i+1=>if pK a ah i<pK b ah i then(fq S a b ah i).set i (over ((fq S a b ah i).getD i []) (pK a ah i) (List.replicate (pK b ah i-pK a ah i) aM))else fq S a b ah i
theorem iZ(S:cz)(a b ah:Nat):∀i,(fq S a b ah i).length=S.length:=by
 intro i;induction i with
 |zero=>rfl
 |succ i ih=>unfold fq;split<;>simp[ih]
theorem M5(S:cz)(a:Nat)(r:bY)(j:Nat):(S.set a r).getD j []=if j=a∧a<S.length then r else S.getD j []:=by
 simp only[List.getD,xX];by_cases h:a=j
 ·subst h;by_cases h2:a<S.length
  ·simp[h2]
  ·simp[h2]
 ·rw[ai h,ai (by omega)]
theorem wV(S:cz)(a b ah:Nat):∀i,i≤S.length→∀j,(fq S a b ah i).getD j []=if j<i∧pK a ah j<pK b ah j then over (S.getD j []) (pK a ah j) (List.replicate (pK b ah j-pK a ah j) aM)else S.getD j []:=by
 intro i;induction i with
 |zero=>intro _ j;rw[ai (by omega)];rfl
 |succ i ih=>
  intro hi j;have hI:=ih (by omega);unfold fq;by_cases hc:pK a ah i<pK b ah i
  ·have hIi:(fq S a b ah i).getD i []=S.getD i []:=by rw[hI i,ai (by omega)]
   rw[ak hc,hIi,M5,iZ];by_cases hj:j=i
   ·subst hj;rw[ak ⟨rfl,by omega⟩,ak ⟨by omega,hc⟩]
   ·rw[ai (by omega),hI j];by_cases h2:j<i∧pK a ah j<pK b ah j
    ·rw[ak h2,ak (by omega)]
    ·rw[ai h2,ai (by omega)]
  ·rw[ai hc,hI j];by_cases h2:j<i∧pK a ah j<pK b ah j
   ·rw[ak h2,ak (by omega)]
   ·by_cases hj:j=i
    ·subst hj;rw[ai h2,ai (by omega)]
    ·rw[ai h2,ai (by omega)]
theorem Aa.cleared{N:Int}{ah:Nat}{S:cz}(hN:0≤N)(h:Aa N ah S)(a b i:Nat)(hi:i≤S.length):Aa N ah (fq S a b ah i):=by
 intro r hr;obtain⟨j,hj,rfl⟩:=List.getElem_of_mem hr;have e':(fq S a b ah i).getD j []=(fq S a b ah i)[j]:=by simp[List.getD,eG hj]
 rw[iZ]at hj;rw[←e',wV _ _ _ _ _ hi];have hg:=h.getD hj;split
 ·rename_i hc;have hb:pK b ah j≤(S.getD j []).length:=by rw[hg.2];unfold pK;omega
  have:=tX hN hg.1 hc.2 hb;exact⟨this.2,by rw[Ah (by rw[kJ];omega)];exact hg.2⟩
 ·exact hg
def cleared (d:DT) (a b:Nat):DT:=d.setCur (fq d.cur a b d.t.ah d.t.rows)
theorem Sg{d:DT}(h:d.Ok)(a b j:Nat)(hj:j<d.t.rows):(dM (fq d.cur a b d.t.ah d.t.rows)).getD j []=if pK a d.t.ah j<pK b d.t.ah j then dP (d.abs.cur.getD j []) (pK a d.t.ah j) (pK b d.t.ah j)else d.abs.cur.getD j []:=by
 rw[gV,wV _ _ _ _ _ (by rw[h.lc];exact bN _),ry,gV];have hg:=h.rc.getD (i:=j) (by rw[h.lc];exact hj);by_cases hc:pK a d.t.ah j<pK b d.t.ah j
 ·rw[ak hc,ak ⟨hj,hc⟩];exact(tX h.I7 hg.1 hc (by rw[hg.2];unfold pK;omega)).1
 ·rw[ai hc,ai (fun x=>hc x.2)]
theorem JB{d:DT}(h:d.Ok)(a b:Nat){s:TS}(hf:s.Fit)(mF:∀j,j<d.t.rows→s.cur.getD j []=if pK a d.t.ah j<pK b d.t.ah j then dP (d.abs.cur.getD j []) (pK a d.t.ah j) (pK b d.t.ah j)else d.abs.cur.getD j [])(hl:s.cur.length=d.t.rows)(hs:s=d.abs.setCur s.cur):(d.cleared a b).Ok∧(d.cleared a b).abs=s:=by
 have he:dM (fq d.cur a b d.t.ah d.t.rows)=s.cur:=by
  apply zM
  ·rw[bF,iZ,h.lc,hl]
  ·intro j hj;rw[bF,iZ,h.lc]at hj;rw[Sg h a b j hj,mF j hj]
 have ha:(d.cleared a b).abs=s:=by unfold cleared;rw[qF,he, ←hs]
 exact⟨h.setCur (Aa.cleared h.I7 h.rc a b _ (by rw[h.lc];exact bN _)) (by rw[iZ];exact h.lc) (by show(d.cleared a b).abs.Fit;rw[ha];exact hf),ha⟩
end DT
theorem TS.iL(s:TS)(S:bS):s.setCur S= {s with s0:=if s.shown=0 then S else s.s0,s1:=if s.shown=0 then s.s1 else S}:=by
 unfold TS.setCur;by_cases h:s.shown=0
 ·rw[ak h,ak h,ak h]
 ·rw[ai h,ai h,ai h]
theorem TS.qJ(s:TS)(S:bS):(s.setCur S).cur=S:=by
 rw[TS.iL];unfold TS.cur;show(if s.shown=0 then(if s.shown=0 then S else s.s0)else(if s.shown=0 then s.s1 else S))=S;by_cases h:s.shown=0
 ·rw[ak h,ak h]
 ·rw[ai h,ai h]
theorem TS.rO(s:TS)(S T:bS):(s.setCur S).setCur T=s.setCur T:=by
 rw[TS.iL (s.setCur S),TS.iL s S,TS.iL s T];by_cases h:s.shown=0
 ·simp only[h,if_true]
 ·simp only[h,ou]
theorem xw{r:List aI}{ah:Nat}(h:r.length=ah):dP r 0 ah=iY ah:=by unfold dP jv;rw[List.take_zero,wL (by rw[aH,aH];omega)];simp[iY]
namespace DT
theorem Bi(k c ah j:Nat)(hc:c≤ah):pK (k*ah+c) ah j=if j<k then ah else if j=k then c else 0:=by
 unfold pK;by_cases h1:j<k
 ·rw[ak h1];have:(j+1)*ah≤k*ah:=Nat.mul_le_mul_right _ h1;rw[Nat.add_mul,Nat.one_mul]at this;omega
 ·rw[ai h1];by_cases h2:j=k
  ·subst h2;rw[ak rfl];omega
  ·rw[ai h2];have:(k+1)*ah≤j*ah:=Nat.mul_le_mul_right _ (by omega);rw[Nat.add_mul,Nat.one_mul]at this;omega
theorem Gq(ah j:Nat):pK 0 ah j=0:=by unfold pK;omega
def erase (d:DT) (f how:Int):DT:=
 let at':=d.t.row.toNat*d.t.ah+d.t.col.toNat;let lo:=if f=75 then d.t.row.toNat*d.t.ah else 0;let hi:=if f=75 then d.t.row.toNat*d.t.ah+d.t.ah else d.t.rows*d.t.ah
 if how=0 then d.cleared at' hi else if how=1 then d.cleared lo (at'+1)else if how=2 then d.cleared lo hi else d
theorem Qt{d:DT}(h:d.Ok)(f p:Int)(hf:f=74∨f=75):(d.erase f (TS.amount p)).Ok∧(d.erase f (TS.amount p)).abs=d.abs.edit f p:=by
 have hfit:(d.abs.edit f p).Fit:=h.fit.edit h.inv f p (fun hs=>by rcases hf with rfl|rfl<;>exact absurd hs (by decide));obtain⟨c,hc,hcc⟩:=h.cl;obtain⟨r,hr,hrr⟩:∃r:Nat,d.t.row=(r:Int)∧r<d.t.rows:=⟨d.t.row.toNat,by have:=h.inv.row0;have e:d.abs.row=d.t.row:=rfl;omega,by have:=h.inv.jK;have:=h.inv.row0;have e:d.abs.row=d.t.row:=rfl;have e2:d.abs.rows=d.t.rows:=rfl;omega⟩;have hcl:d.abs.cur.length=d.t.rows:=h.inv.ql;have hlen:∀j,j<d.t.rows→(d.abs.cur.getD j []).length=d.t.ah:=fun j hj=>by rw[ry,gV,aU];exact(h.rc.getD (by rw[h.lc];exact hj)).2
 have er:d.abs.row.toNat=r:=by show d.t.row.toNat=r;omega
 have ec:d.abs.col.toNat=c:=by show d.t.col.toNat=c;omega
 have ecs:d.abs.ah=d.t.ah:=rfl;have ers:d.abs.rows=d.t.rows:=rfl;have e1:d.t.row.toNat=r:=by omega
 have e2:d.t.col.toNat=c:=by omega
 have hrn:d.abs.aP=d.abs.cur.getD r []:=by rw[←er];rfl
 generalize hA:TS.amount p=how at*;unfold erase;simp only[e1,e2];have hset:∀S,d.abs.aN S=d.abs.setCur (d.abs.cur.set r S):=fun S=>by unfold TS.aN;rw[er]
 have K:∀a b S,(d.abs.edit f p)=d.abs.setCur S→S.length=d.t.rows→(∀j,j<d.t.rows→S.getD j []=if pK a d.t.ah j<pK b d.t.ah j then dP (d.abs.cur.getD j []) (pK a d.t.ah j) (pK b d.t.ah j)else d.abs.cur.getD j [])→(d.cleared a b).Ok∧(d.cleared a b).abs=d.abs.edit f p:=fun a b S hS hl hg=>by
  have hcu:(d.abs.edit f p).cur=S:=by rw[hS,TS.qJ]
  exact JB h a b hfit (by rw[hcu];exact hg) (by rw[hcu];exact hl) (by rw[hcu];exact hS)
 rcases hf with rfl|rfl
 ·
  have hE:d.abs.edit 74 p=(d.abs.dD how).dY how:=by unfold TS.edit;simp only[if_true,hA]
  simp only[show¬(74:Int)=75 by decide,ou];by_cases h0:how=0
  ·subst h0;rw[ak rfl];refine K _ _ (cK (d.abs.cur.set r (dP (d.abs.cur.getD r []) c d.t.ah)) (r+1) d.t.ah (d.t.rows-(r+1))) ?_ ?_ ?_
   ·rw[hE];unfold TS.dD;rw[ak rfl,hset,hrn,ec,ecs];unfold TS.dY;rw[ak rfl,TS.qJ,TS.rO];have q1:(d.abs.setCur (d.abs.cur.set r (dP (d.abs.cur.getD r []) c d.t.ah))).row.toNat=r:=by rw[TS.iL];exact er
    have q2:(d.abs.setCur (d.abs.cur.set r (dP (d.abs.cur.getD r []) c d.t.ah))).ah=d.t.ah:=by rw[TS.iL];rfl
    have q3:(d.abs.setCur (d.abs.cur.set r (dP (d.abs.cur.getD r []) c d.t.ah))).rows=d.t.rows:=by rw[TS.iL];rfl
    rw[q1,q2,q3]
   ·rw[fB,lG,hcl]
   ·intro j hj;rw[lK _ _ _ _ (by rw[lG,hcl];omega),r9,hcl,Bi _ _ _ _ (by omega),show d.t.rows*d.t.ah=d.t.rows*d.t.ah+0 by omega,Bi _ _ _ _ (by omega)];by_cases j1:j<r
    ·rw[ai (by omega),ai (by omega),ak j1,ak hj,ai (by omega)]
    ·by_cases j2:j=r
     ·subst j2;rw[ai (by omega),ak ⟨rfl,hj⟩,ai j1,ak rfl,ak hj,ak hcc]
     ·rw[ak (by omega),ai j1,ai j2,ak hj,ak (by omega),xw (hlen j hj)]
  ·rw[ai h0];by_cases h1:how=1
   ·subst h1;rw[ak rfl];refine K _ _ (cK (d.abs.cur.set r (dP (d.abs.cur.getD r []) 0 (c+1))) 0 d.t.ah r) ?_ ?_ ?_
    ·rw[hE];unfold TS.dD;rw[ai (by decide),ak rfl,hset,hrn,ec];unfold TS.dY;rw[ai (by decide),ak rfl,TS.qJ,TS.rO];have q1:(d.abs.setCur (d.abs.cur.set r (dP (d.abs.cur.getD r []) 0 (c+1)))).row.toNat=r:=by rw[TS.iL];exact er
     have q2:(d.abs.setCur (d.abs.cur.set r (dP (d.abs.cur.getD r []) 0 (c+1)))).ah=d.t.ah:=by rw[TS.iL];rfl
     rw[q1,q2]
    ·rw[fB,lG,hcl]
    ·intro j hj;rw[lK _ _ _ _ (by rw[lG,hcl];omega),r9,hcl,Gq,show r*d.t.ah+c+1=r*d.t.ah+(c+1) by omega,Bi _ _ _ _ (by omega)];by_cases j1:j<r
     ·rw[ak (by omega),ak j1,ak (by omega),xw (hlen j hj)]
     ·by_cases j2:j=r
      ·subst j2;rw[ai (by omega),ak ⟨rfl,hj⟩,ai j1,ak rfl,ak (by omega)]
      ·rw[ai (by omega),ai (by omega),ai j1,ai j2,ai (by omega)]
   ·rw[ai h1];by_cases h2:how=2
    ·subst h2;rw[ak rfl];refine K _ _ (cK (d.abs.cur.set r (dP (d.abs.cur.getD r []) 0 d.t.ah)) 0 d.t.ah d.t.rows) ?_ ?_ ?_
     ·rw[hE];unfold TS.dD;rw[ai (by decide),ai (by decide),ak rfl,hset,hrn,ecs];unfold TS.dY;rw[ai (by decide),ai (by decide),ak rfl,TS.qJ,TS.rO];have q2:(d.abs.setCur (d.abs.cur.set r (dP (d.abs.cur.getD r []) 0 d.t.ah))).ah=d.t.ah:=by rw[TS.iL];rfl
      have q3:(d.abs.setCur (d.abs.cur.set r (dP (d.abs.cur.getD r []) 0 d.t.ah))).rows=d.t.rows:=by rw[TS.iL];rfl
      rw[q2,q3]
     ·rw[fB,lG,hcl]
     ·intro j hj;rw[lK _ _ _ _ (by rw[lG,hcl];omega),Gq,show d.t.rows*d.t.ah=d.t.rows*d.t.ah+0 by omega,Bi _ _ _ _ (by omega),ak (by omega),ak hj,ak (by omega),xw (hlen j hj)]
    ·rw[ai h2];refine⟨h,?_⟩;rw[hE];unfold TS.dD TS.dY;rw[ai h0,ai h1,ai h2,ai h0,ai h1,ai h2]
 ·
  have hE:d.abs.edit 75 p=d.abs.dD how:=by unfold TS.edit;simp only[show¬(75:Int)=74 by decide,if_true,ou,hA]
  simp only[if_true];have G:∀(a b:Nat) (x y:Nat),x<y→y≤d.t.ah→pK a d.t.ah=(fun j=>if j<r then d.t.ah else if j=r then x else 0)→pK b d.t.ah=(fun j=>if j<r then d.t.ah else if j=r then y else 0)→∀j,j<d.t.rows→(d.abs.cur.set r (dP (d.abs.cur.getD r []) x y)).getD j []=if pK a d.t.ah j<pK b d.t.ah j then dP (d.abs.cur.getD j []) (pK a d.t.ah j) (pK b d.t.ah j)else d.abs.cur.getD j []:=by
   intro a b x y hxy hyc ha hb j hj;rw[r9,hcl,ha,hb];simp only;by_cases j1:j<r
   ·rw[ai (by omega),ak j1,ak j1,ai (by omega)]
   ·by_cases j2:j=r
    ·subst j2;rw[ak ⟨rfl,hj⟩,ai j1,ai j1,ak rfl,ak rfl,ak hxy]
    ·rw[ai (by omega),ai j1,ai j1,ai j2,ai j2,ai (by omega)]
  have A0:∀x,x≤d.t.ah→pK (r*d.t.ah+x) d.t.ah=(fun j=>if j<r then d.t.ah else if j=r then x else 0):=fun x hx=>funext fun j=>Bi _ _ _ _ hx;have A00:pK (r*d.t.ah) d.t.ah=(fun j=>if j<r then d.t.ah else if j=r then 0 else 0):=A0 0 (by omega);by_cases h0:how=0
  ·subst h0;rw[ak rfl];refine K _ _ (d.abs.cur.set r (dP (d.abs.cur.getD r []) c d.t.ah)) ?_ (by rw[lG,hcl]) (G _ _ c d.t.ah hcc (bN _) (A0 c (by omega)) (A0 _ (bN _)));rw[hE];unfold TS.dD;rw[ak rfl,hset,hrn,ec,ecs]
  ·rw[ai h0];by_cases h1:how=1
   ·subst h1;rw[ak rfl];refine K _ _ (d.abs.cur.set r (dP (d.abs.cur.getD r []) 0 (c+1))) ?_ (by rw[lG,hcl]) (G _ _ 0 (c+1) (by omega) (by omega) A00 (A0 (c+1) (by omega)));rw[hE];unfold TS.dD;rw[ai (by decide),ak rfl,hset,hrn,ec]
   ·rw[ai h1];by_cases h2:how=2
    ·subst h2;rw[ak rfl];refine K _ _ (d.abs.cur.set r (dP (d.abs.cur.getD r []) 0 d.t.ah)) ?_ (by rw[lG,hcl]) (G _ _ 0 d.t.ah (by omega) (bN _) A00 (A0 _ (bN _)));rw[hE];unfold TS.dD;rw[ai (by decide),ai (by decide),ak rfl,hset,hrn,ecs]
    ·rw[ai h2];refine⟨h,?_⟩;rw[hE];unfold TS.dD;rw[ai h0,ai h1,ai h2]
end DT
end Go.Proofs.YtheibfffilomcaaGreatDoor
