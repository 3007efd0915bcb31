import Derived.Test.YtheibfffilomcaaGreatDoorTmaU
import Derived.Test.YtheibfffilomcaaGreatDoorUjU
import Derived.Test.YtheibfffilomcaaGreatDoorUeU
set_option linter.all false
set_option maxRecDepth 100000
set_option maxHeartbeats 2000000
namespace Go.Proofs.YtheibfffilomcaaGreatDoor
open Go.RowKit Go.Proofs.Tryz
variable {d d':DT} {tb done done':Nat} {v0 v1 v0' v1':Value} {fed kT:ByteArray} {u w:World} {Q:Exit→Act→World→Prop} {a:Act} {K:Act→World→Prop}
namespace DT
def rows (d:DT) (n:Int):DT:=if d.t.top≤d.t.row∧d.t.row≤d.t.bottom then((d.fI d.t.row n).sc (fun t=>{t with col:=0})).IM else d.IM
def region (d:DT) (top bottom:Int):DT:=
 let b:=if bottom≤0∨(d.t.rows:Int)<bottom then(d.t.rows:Int)else bottom
 if top<b then(d.sc (fun t=>{t with top:=top-1,bottom:=b-1})).to 0 0 else d
def lu (tb:List Bool) (z:Int) (c:Nat):List Bool:=if z=3 then List.replicate tb.length false else if z=0 then tb.set c false else tb
def qf (d:DT):List Int→DT
 | []=>d
 |n::l=>(d.sc (fun t=>{t with pen:=TS.turn t.pen (TS.amount n)})).qf l
def edit (d:DT) (f n z:Int) (b:Int) (ps:List Int):DT:=
 if f=64 then(d.put (pushed d.aP d.t.col.toNat n.toNat)).IM else if f=80 then(d.put (tY d.aP d.t.col.toNat n.toNat)).IM
 else if f=88 then(d.put (over d.aP d.t.col.toNat (List.replicate (min n.toNat (d.t.ah-d.t.col.toNat)) aM))).IM
 else if f=76 then d.rows (-n)else if f=77 then d.rows n else if f=83 then d.fI d.t.top n else if f=84 then d.fI d.t.top (-n)
 else if f=74∨f=75 then d.erase f z else if f=114 then d.region n b else if f=103 then{d with tb:=lu d.tb z d.t.col.toNat}
 else if f=109 then d.qf ps else if f=104∨f=108 then(if z=4 then d.sc (fun t=>{t with insert:=decide (f=104)})else d)else d
theorem VC(s:TS)(r:List aI):s.aF.aN r=(s.aN r).aF:=by unfold TS.aN;rw[TS.iL,TS.iL];rfl
theorem KZ(s:TS)(S:bS):s.aF.setCur S=(s.setCur S).aF:=by rw[TS.iL,TS.iL];rfl
theorem Ff{d:DT}(h:d.Ok){r:bY}{x:List aI}(hr:strip r=x∧Ao d.ids r)(hl:r.length=d.t.ah)(hf2:(d.abs.aN x).Fit):((d.put r).IM).Ok∧((d.put r).IM).abs=d.abs.aF.aN x:=by
 have ha:(d.put r).abs=d.abs.aN x:=by rw[Ev,hr.1]
 have k:=h.put ⟨hr.2,hl⟩ (by rw[ha];exact hf2);exact⟨(uh k).1,by rw[(uh k).2,ha,VC]⟩
theorem rows_ok{d:DT}(h:d.Ok)(f p:Int)(hf:f=76∨f=77):(d.rows (if f=76 then-(TS.times p)else TS.times p)).Ok∧(d.rows (if f=76 then-(TS.times p)else TS.times p)).abs=d.abs.aF.edit f p:=by
 have hi:=h.inv.aF.edit f p;have hfit:=h.fit.aF.edit h.inv.aF f p (fun _=>rfl);have hn:=TS.xN p;obtain⟨n,hn2⟩:∃n:Nat,TS.times p=(n:Int):=⟨(TS.times p).toNat,by omega⟩;have hE:d.abs.aF.edit f p=if d.abs.aF.inRegion then(d.abs.aF.setCur (if f=76 then oC d.abs.cur d.t.row.toNat d.abs.below n d.t.ah else FX d.abs.cur d.t.row.toNat d.abs.below n d.t.ah)).bQ 0 else d.abs.aF:=by unfold TS.edit;simp only[hn2,lF];rcases hf with rfl|rfl<;>simp<;>rfl
 have ab6:d.abs.aF.inRegion=decide (d.t.top≤d.t.row∧d.t.row≤d.t.bottom):=rfl;unfold rows;by_cases hin:d.t.top≤d.t.row∧d.t.row≤d.t.bottom
 ·rw[ak hin];rw[ab6,iP hin,ak rfl]at hE;have r0:0≤d.t.row:=h.inv.row0;have hsc:(d.fI d.t.row (if f=76 then-(TS.times p)else TS.times p)).abs=d.abs.setCur (if f=76 then oC d.abs.cur d.t.row.toNat d.abs.below n d.t.ah else FX d.abs.cur d.t.row.toNat d.abs.below n d.t.ah):=by
   rw[hn2];rcases hf with rfl|rfl
   ·rw[ak rfl,ak rfl,qE h _ _ r0 (by omega) (by omega)];rfl
   ·rw[ai (by decide),ai (by decide),sW h _ _ r0 (by omega) (by omega)];rfl
  have hsf:(d.fI d.t.row (if f=76 then-(TS.times p)else TS.times p)).abs.Fit:=by
   rw[hsc];have hb:d.t.row.toNat+d.abs.below≤d.abs.cur.length:=by have:=h.inv.bot;have hl:=h.inv.ql;unfold TS.below;have e1:d.abs.bottom=d.t.bottom:=rfl;have e2:d.abs.row=d.t.row:=rfl;omega
   rcases hf with rfl|rfl
   ·rw[ak rfl];exact h.fit.setCur (h.fit.cur.down _ _ _ hb)
   ·rw[ai (by decide)];exact h.fit.setCur (h.fit.cur.up _ _ _ hb)
  have k:=h.fI _ _ r0 hsf;have hz:=I1 k;have ha:(((d.fI d.t.row (if f=76 then-(TS.times p)else TS.times p)).sc (fun t=>{t with col:=0})).IM).abs=d.abs.aF.edit f p:=by show(((d.fI d.t.row (if f=76 then-(TS.times p)else TS.times p)).sc (fun t=>{t with col:=0})).abs).aF=_;rw[hz,hsc,hE,KZ];rfl
  exact k.of ha hi hfit rfl rfl rfl rfl rfl
 ·rw[ai hin];rw[ab6,jh hin,ai (by simp)]at hE;exact h.of (by rw[hE];rfl) hi hfit rfl rfl rfl rfl rfl
theorem D8{d:DT}(h:d.Ok)(f p:Int)(hf:f=83∨f=84):(d.fI d.t.top (if f=84 then-(TS.times p)else TS.times p)).Ok∧(d.fI d.t.top (if f=84 then-(TS.times p)else TS.times p)).abs=d.abs.edit f p:=by
 have hfit:=h.fit.edit h.inv f p (fun hs=>by rcases hf with rfl|rfl<;>exact absurd hs (by decide));have hn:=TS.xN p;obtain⟨n,hn2⟩:∃n:Nat,TS.times p=(n:Int):=⟨(TS.times p).toNat,by omega⟩;have r0:0≤d.t.top:=h.inv.iO;have r1:d.t.top≤d.t.bottom:=h.inv.tb;have ha:(d.fI d.t.top (if f=84 then-(TS.times p)else TS.times p)).abs=d.abs.edit f p:=by
  unfold TS.edit;simp only[hn2,lF];rcases hf with rfl|rfl
  ·rw[ai (by decide),sW h _ _ r0 (by omega) (by omega)];simp;rfl
  ·rw[ak rfl,qE h _ _ r0 (by omega) (by omega)];simp;rfl
 exact⟨h.fI _ _ r0 (by rw[ha];exact hfit),ha⟩
theorem NI{d:DT}(h:d.Ok)(p q:Int):(d.region (TS.times p) (TS.amount q)).Ok∧(d.region (TS.times p) (TS.amount q)).abs=d.abs.gU (TS.times p-1) (TS.amount q-1):=by
 have hn:=TS.xN p;have hi:=h.inv.gU (TS.times p-1) (TS.amount q-1) (by omega);have hft:=h.fit.gU h.inv (TS.times p-1) (TS.amount q-1) (by omega);generalize TS.times p=n at*;generalize TS.amount q=m at*;have hb:(if m-1<0∨(d.t.rows:Int)-1<m-1 then(d.t.rows:Int)-1 else m-1)=(if m≤0∨(d.t.rows:Int)<m then(d.t.rows:Int)else m)-1:=by
  by_cases k:m≤0∨(d.t.rows:Int)<m
  ·rw[ak k,ak (by omega)]
  ·rw[ai k,ai (by omega)]
 unfold region;simp only;unfold TS.gU at hi hft ⊢;simp only at hi hft ⊢;rw[show d.abs.rows=d.t.rows from rfl,hb]at hi hft ⊢;generalize (if m≤0∨(d.t.rows:Int)<m then(d.t.rows:Int)else m)=b at*;by_cases hlt:n<b
 ·rw[ak hlt];rw[ai (by omega)]at hi hft ⊢;refine h.of ?_ hi hft rfl rfl rfl rfl rfl;rw[Ew];rfl
 ·rw[ai hlt,ak (by omega)];exact⟨h,rfl⟩
theorem vo(tb:List Bool)(z:Int)(c:Nat):(lu tb z c).length=tb.length:=by
 unfold lu
 repeat' split
 all_goals simp
theorem Vx{d:DT}(h:d.Ok)(p:Int):({d with tb:=lu d.tb (TS.amount p) d.t.col.toNat}:DT).Ok∧({d with tb:=lu d.tb (TS.amount p) d.t.col.toNat}:DT).abs=d.abs.fM (TS.amount p):=by
 have hi:=h.inv.fM (TS.amount p);have hf:=h.fit.fM (TS.amount p);have hl:(d.tb.take d.t.ah).length=d.t.ah:=h.inv.lt;generalize TS.amount p=z at*;have ha:({d with tb:=lu d.tb z d.t.col.toNat}:DT).abs=d.abs.fM z:=by
  show({d.abs with tabs:=(lu d.tb z d.t.col.toNat).take d.t.ah}:TS)=_;unfold lu TS.fM;by_cases h3:z=3
  ·subst h3;rw[ak rfl,ai (by decide),ak rfl];show _=({d.abs with tabs:=List.replicate (d.tb.take d.t.ah).length false}:TS);rw[hl,List.take_replicate,rT (by rw[kg]at hl;omega)]
  ·by_cases h0:z=0
   ·subst h0;rw[ai h3,ak rfl,ak rfl,List.take_set];rfl
   ·rw[ai h3,ai h0,ai h0,ai h3];rfl
 exact⟨⟨ha▸hi,ha▸hf,h.r0,h.r1,h.I7,by show(lu _ _ _).length=40;rw[vo];exact h.tl⟩,ha⟩
theorem Vh(l:List Int):∀{d:DT},d.Ok→(d.qf l).Ok∧(d.qf l).abs=d.abs.turns l:=by
 induction l with
 |nil=>intro d h;exact⟨h,rfl⟩
 |cons n l ih=>intro d h;have k:=h.of (e:=d.sc (fun t=>{t with pen:=TS.turn t.pen (TS.amount n)})) (s:={d.abs with pen:=TS.turn d.abs.pen (TS.amount n)}) rfl (h.inv.turns [n]) (h.fit.turns [n]) rfl rfl rfl rfl rfl;have j:=ih k.1;exact⟨j.1,by rw[qf,j.2,k.2];rfl⟩
def qO (ps:List Int) (ct i:Nat) (o:Int):Int:=if ct≤i∨ps.getD i 0<o then o else ps.getD i 0
theorem Wj{ps:List Int}{ct:Nat}(hz:∀i,ct≤i→ps.getD i 0=0)(i:Nat):qO ps ct i 1=TS.times (ps.getD i 0):=by
 unfold qO TS.times;by_cases h:ct≤i
 ·rw[ak (.inl h),hz i h];rfl
 ·split<;>omega
theorem Wi{ps:List Int}{ct:Nat}(hz:∀i,ct≤i→ps.getD i 0=0)(i:Nat):qO ps ct i 0=TS.amount (ps.getD i 0):=by
 unfold qO TS.amount;by_cases h:ct≤i
 ·rw[ak (.inl h),hz i h];rfl
 ·split<;>omega
def sequence (d:DT) (f:Int) (ps:List Int) (ct:Nat):DT:=
 if qZ f=true then d.moves f (qO ps ct 0 1) (qO ps ct 1 1)else d.edit f (qO ps ct 0 1) (qO ps ct 0 0) (qO ps ct 1 0) (ps.take ct)
theorem Ee(n:Int):TS.amount n=4↔n=4:=by unfold TS.amount;omega
theorem Ip{d:DT}(h:d.Ok)(f:Int)(ps:List Int)(ct:Nat)(hz:∀i,ct≤i→ps.getD i 0=0):(d.sequence f ps ct).Ok∧(d.sequence f ps ct).abs=d.abs.sequence 0 f ps ct:=by
 have hi:=h.inv.sequence 0 f ps ct;have hft:=h.fit.sequence h.inv 0 f ps ct;unfold sequence;rw[Wj hz,Wj hz,Wi hz,Wi hz];have hS:d.abs.sequence 0 f ps ct=(((if TS.mZ f then d.abs.aF else d.abs).move f (ps.getD 0 0) (ps.getD 1 0)).edit f (ps.getD 0 0)).kC f ps ct:=rfl;by_cases hm:qZ f=true
 ·rw[ak hm];have k:=Rh h f (ps.getD 0 0) (ps.getD 1 0) hm;refine⟨k.1,k.2.trans ?_⟩;rw[hS];simp only[qZ,AR]at hm;rcases hm with rfl|rfl|rfl|rfl|rfl|rfl|rfl|rfl<;>rfl
 rw[ai hm];have hnm:∀s:TS,s.move f (ps.getD 0 0) (ps.getD 1 0)=s:=fun s=>by simp only[qZ,AR]at hm;unfold TS.move;rw[ai (by omega),ai (by omega),ai (by omega),ai (by omega),ai (by omega),ai (by omega),ai (by omega)]
 rw[hnm]at hS;obtain⟨c,hc,hcc⟩:=h.cl;have e2:d.t.col.toNat=c:=by omega
 have hrl:=h.rn.2;have hn:=TS.xN (ps.getD 0 0);unfold edit;by_cases h64:f=64
 ·subst h64;rw[ak rfl,hS];have hp:=DU h.I7 h.rn.1 (a:=d.t.col.toNat) (n:=(TS.times (ps.getD 0 0)).toNat) (by omega) (by omega);have:=Ff h hp (by rw[qm hp.1,lW _ _ _ (by rw[aU];omega),aU,hrl]) (by rw[←lJ];exact h.fit.ins h.inv _);refine⟨this.1,this.2.trans ?_⟩;rw[←lJ];rfl
 rw[ai h64];by_cases h80:f=80
 ·subst h80;rw[ak rfl,hS];have hp:=NG h.rn.1 (a:=d.t.col.toNat) (n:=(TS.times (ps.getD 0 0)).toNat) (by omega) (by omega);have:=Ff h hp (by rw[qm hp.1,qP _ _ _ (by rw[aU];omega),aU,hrl]) (by rw[←lJ];exact h.fit.rem h.inv _);refine⟨this.1,this.2.trans ?_⟩;rw[←lJ];rfl
 rw[ai h80];by_cases h88:f=88
 ·subst h88;rw[ak rfl,hS];obtain⟨b,hb⟩:∃b,b=min (c+(TS.times (ps.getD 0 0)).toNat) d.t.ah:=⟨_,rfl⟩;have hm2:min (TS.times (ps.getD 0 0)).toNat (d.t.ah-d.t.col.toNat)=b-c:=by omega
  rw[hm2,e2];have hp:=tX h.I7 h.rn.1 (a:=c) (b:=b) (by omega) (by omega);have:=Ff h hp (by rw[Ah (by rw[kJ];omega),hrl]) (by rw[←lJ];exact h.fit.OJ h.inv _ _ (by omega) (by show b≤d.t.ah;omega));refine⟨this.1,this.2.trans ?_⟩;rw[←lJ,hb];show _=d.abs.aF.aN (dP d.abs.aF.aP d.t.col.toNat (min (d.t.col.toNat+(TS.times (ps.getD 0 0)).toNat) d.t.ah));rw[e2];rfl
 rw[ai h88];by_cases h76:f=76
 ·subst h76;have:=rows_ok h 76 (ps.getD 0 0) (.inl rfl);rw[ak rfl]at this ⊢;exact⟨this.1,this.2.trans (by rw[hS];rfl)⟩
 rw[ai h76];by_cases h77:f=77
 ·subst h77;have:=rows_ok h 77 (ps.getD 0 0) (.inr rfl);rw[ai (by decide)]at this;rw[ak rfl];exact⟨this.1,this.2.trans (by rw[hS];rfl)⟩
 rw[ai h77];by_cases h83:f=83
 ·subst h83;have:=D8 h 83 (ps.getD 0 0) (.inl rfl);rw[ai (by decide)]at this;rw[ak rfl];exact⟨this.1,this.2.trans (by rw[hS];rfl)⟩
 rw[ai h83];by_cases h84:f=84
 ·subst h84;have:=D8 h 84 (ps.getD 0 0) (.inr rfl);rw[ak rfl]at this ⊢;exact⟨this.1,this.2.trans (by rw[hS];rfl)⟩
 rw[ai h84];by_cases h74:f=74∨f=75
 ·rw[ak h74];have:=Qt h f (ps.getD 0 0) h74;refine⟨this.1,this.2.trans ?_⟩;rw[hS];rcases h74 with rfl|rfl<;>rfl
 rw[ai h74];have hst:TS.mZ f=false:=by unfold TS.mZ;simp only[qZ,AR]at hm;simp;omega
 have hE:(if TS.mZ f then d.abs.aF else d.abs).edit f (ps.getD 0 0)=d.abs:=by rw[hst];show d.abs.edit f _=_;unfold TS.edit;simp only;rw[ai (by omega),ai (by omega),ai h64,ai h80,ai h88,ai h76,ai h77,ai h83,ai h84]
 rw[hE]at hS;by_cases h114:f=114
 ·subst h114;rw[ak rfl,hS];exact NI h _ _
 rw[ai h114];by_cases h103:f=103
 ·subst h103;rw[ak rfl,hS];exact Vx h _
 rw[ai h103];by_cases h109:f=109
 ·subst h109;rw[ak rfl,hS];exact Vh _ h
 rw[ai h109];by_cases h104:f=104∨f=108
 ·rw[ak h104];have hA:d.abs.kC f ps ct=if ps.getD 0 0=4 then{d.abs with insert:=decide (f=104)} else d.abs:=by unfold TS.kC;rw[ai h114,ai h103,ai h109,ak h104]
  rw[hS]at hi hft ⊢;by_cases h4:ps.getD 0 0=4
  ·rw[ak ((Ee _).2 h4)];exact h.of (by rw[hA,ak h4];rfl) hi hft rfl rfl rfl rfl rfl
  ·rw[ai (fun x=>h4 ((Ee _).1 x)),hA,ai h4];exact⟨h,rfl⟩
 ·rw[ai h104,hS];unfold TS.kC;rw[ai h114,ai h103,ai h109,ai h104];exact⟨h,rfl⟩
def jr (d:DT) (n:Int) (on:Bool):DT:=
 if n=6 then(d.sc (fun t=>{t with origin:=on})).to 0 0 else if n=7 then d.sc (fun t=>{t with wrap:=on,waits:=if on then t.waits else false})else if n=47 then d.sc (fun t=>{t with shown:=if on then 1 else 0})else d
def privates (d:DT) (on:Bool):List Int→DT
 | []=>d
 |n::l=>(d.jr n on).privates on l
theorem Kj{d:DT}(h:d.Ok)(n:Int)(on:Bool):(d.jr n on).Ok∧(d.jr n on).abs=d.abs.set1 n on:=by
 have hi:=h.inv.set1 n on;have hft:=h.fit.set1 h.inv n on;unfold jr;by_cases h6:n=6
 ·subst h6;rw[ak rfl];refine h.of ?_ hi hft rfl rfl rfl rfl rfl;rw[Ew];rfl
 rw[ai h6];by_cases h7:n=7
 ·subst h7;rw[ak rfl];refine h.of ?_ hi hft rfl rfl rfl rfl rfl;have v:(if on then d.t.waits else false)=(d.t.waits&&on):=by cases on<;>simp
  have hS:d.abs.set1 7 on= {d.abs with wrap:=on,waits:=d.t.waits&&on}:=rfl;rw[hS, ←v];rfl
 rw[ai h7];by_cases h47:n=47
 ·subst h47;rw[ak rfl];exact h.of rfl hi hft rfl rfl rfl rfl rfl
 rw[ai h47];refine⟨h,?_⟩;unfold TS.set1;rw[ai h6,ai h7,ai h47]
theorem uV(on:Bool)(l:List Int):∀{d:DT},d.Ok→(d.privates on l).Ok∧(d.privates on l).abs=d.abs.sets on l:=by
 induction l with
 |nil=>intro d h;exact⟨h,rfl⟩
 |cons n l ih=>intro d h;have k:=Kj h n on;have j:=ih k.1;exact⟨j.1,by rw[privates,j.2,k.2];rfl⟩
def does (d:DT) (ev:List Int):DT:=
 if ev.getD 0 0=1 then d.print (ev.getD 1 0) (j_ (ev.getD 1 0)).toNat else if ev.getD 0 0=2 then d.control (ev.getD 1 0)else if ev.getD 0 0=3 then d.escape (ev.getD 2 0) (ev.getD 3 0)
 else if ev.getD 0 0=4 then(if ev.getD 2 0=0 then d.sequence (ev.getD 3 0) (ev.drop 5) (ev.getD 4 0).toNat else if ev.getD 2 0=63∧(ev.getD 3 0=104∨ev.getD 3 0=108)then d.privates (decide (ev.getD 3 0=104)) ((ev.drop 5).take (ev.getD 4 0).toNat)else d)else d
theorem UC{d:DT}(h:d.Ok)(ev:List Int)(hs:ev.getD 0 0=1→zh (ev.getD 1 0))(hz:∀i,(ev.getD 4 0).toNat≤i→(ev.drop 5).getD i 0=0):(d.does ev).Ok∧(d.does ev).abs=d.abs.take ev:=by
 unfold does TS.take;by_cases h1:ev.getD 0 0=1
 ·rw[ak h1,ak h1];exact Ro h _ (hs h1)
 rw[ai h1,ai h1];by_cases h2:ev.getD 0 0=2
 ·rw[ak h2,ak h2];exact JC h _
 rw[ai h2,ai h2];by_cases h3:ev.getD 0 0=3
 ·rw[ak h3,ak h3];exact M9 h _ _
 rw[ai h3,ai h3];by_cases h4:ev.getD 0 0=4
 ·rw[ak h4,ak h4];by_cases hm:ev.getD 2 0=0
  ·rw[ak hm,hm];exact Ip h _ _ _ hz
  rw[ai hm];unfold TS.sequence;rw[ai hm];by_cases hq:ev.getD 2 0=63
  ·rw[ak hq];by_cases hl:ev.getD 3 0=104∨ev.getD 3 0=108
   ·rw[ak ⟨hq,hl⟩,ak hl];exact uV _ _ h
   ·rw[ai (fun x=>hl x.2),ai hl];exact⟨h,rfl⟩
  ·rw[ai (fun x=>hq x.1),ai hq];exact⟨h,rfl⟩
 ·rw[ai h4,ai h4];exact⟨h,rfl⟩
end DT
def rP (v0 v1:Value) (fed:ByteArray) (done:Nat) (d:DT):List Value:=
 [.int .i64 (d.t.rows:Int),.int .i64 (d.t.ah:Int),.string fed,.int .i64 (done:Int)]++(xM d.t++(aT v0 d.t.v0++(aT v1 d.t.v1++(d.tb.map Value.bool++[.int .i64 d.ids]))))
structure bR (w:World) (tb:Nat) (v0 v1:Value) (fed:ByteArray) (done:Nat) (d:DT):Prop where
 blk:w.heap[tb]? =some (.cells (rP v0 v1 fed done d).toArray 91 (0,0))
 h0:ShR w 0 v0 d.d0
 h1:ShR w 0 v1 d.d1
section
variable {w w':World} {tb:Nat} {v0 v1:Value} {fed:ByteArray} {done:Nat} {d:DT}
theorem bR.lt(h:bR w tb v0 v1 fed done d):tb<w.heap.size:=aK h.blk
theorem bR.c(h:bR w tb v0 v1 fed done d)(j:Nat)(v:Value)(hv:(rP v0 v1 fed done d)[j]? =some v):w.cell? ⟨tb,j,none⟩=some v:=by rw[bG _ _ _ _ _ _ h.blk];simpa using hv
theorem bR.f(h:bR w tb v0 v1 fed done d)(j:Nat):w.frozen? ⟨tb,j,none⟩=false:=oh _ _ _ _ _ h.blk
theorem bR.off(h:bR w tb v0 v1 fed done d):Off w (· =tb):=Off.one h.blk (by decide) (by decide)
theorem bR.kept(h:bR w tb v0 v1 fed done d){P:Nat→Prop}(c:Ch P w w')(hp:¬P tb)(ho:Off w P):bR w' tb v0 v1 fed done d:=⟨(c.block tb h.lt hp).trans h.blk,h.h0.nk c ho,h.h1.nk c ho⟩
theorem bR.sm(h:bR w tb v0 v1 fed done d)(c:Sm w w'):bR w' tb v0 v1 fed done d:=h.kept c id (fun _ h=>h.elim)
theorem bR.drewN(h:bR w tb v0 v1 fed done d)(n:Nat):bR (w.drewN n) tb v0 v1 fed done d:=h.sm ((Ch.refl _ _).drewN n)
theorem bR.range(h:bR w tb v0 v1 fed done d)(j:Nat)(cs:List Value)(hj:((rP v0 v1 fed done d).drop j).take cs.length=cs):w.rangeAt tb j cs:=fun i v hv=>by
 refine h.c (j+i) v ?_;rw[←hj,mJ]at hv;split at hv
 ·rwa[rf]at hv
 ·cases hv
theorem bR.put{v0' v1':Value}{kT:ByteArray}{done':Nat}{d':DT}(h:bR w tb v0 v1 fed done d)(hb:w'.heap[tb]? =some (.cells (rP v0' v1' kT done' d').toArray 91 (0,0)))(c:Ch (· =tb) w w')(h0:ShR w 0 v0' d'.d0)(h1:ShR w 0 v1' d'.d1):bR w' tb v0' v1' kT done' d':=
 ⟨hb,h0.nk c h.off,h1.nk c h.off⟩
theorem bR.set{v0' v1':Value}{kT:ByteArray}{done':Nat}{d':DT}(h:bR w tb v0 v1 fed done d)(j:Nat)(v:Value)(hj:(rP v0 v1 fed done d).set j v=rP v0' v1' kT done' d')(h0:ShR w 0 v0' d'.d0)(h1:ShR w 0 v1' d'.d1):bR (w.setCell ⟨tb,j,none⟩ v) tb v0' v1' kT done' d':=by refine h.put ?_ ((Ch.refl _ _).set _ _ _ (fun _=>rfl)) h0 h1;rw[rR w tb j _ 91 _ h.blk, ←hj];simp
theorem bR.set1{d':DT}(h:bR w tb v0 v1 fed done d)(j:Nat)(v:Value)(hj:(rP v0 v1 fed done d).set j v=rP v0 v1 fed done d')(e0:d'.d0=d.d0)(e1:d'.d1=d.d1):bR (w.setCell ⟨tb,j,none⟩ v) tb v0 v1 fed done d':=h.set j v hj (e0▸h.h0) (e1▸h.h1)
theorem Ch.aa3{u:World}(h:Ch (· =tb) w u)(j:Nat)(v:Value):Ch (· =tb) w (u.setCell ⟨tb,j,none⟩ v):=h.set _ _ _ (fun _=>rfl)
theorem Aq(hl:d.tb.length=40):(rP v0 v1 fed done d).length=88:=by simp[rP,xM,aB,aT,hl]
theorem bR.sets{v0' v1':Value}{kT:ByteArray}{done':Nat}{d':DT}(h:bR w tb v0 v1 fed done d)(hl:d.tb.length=40)(j:Nat)(cs:List Value)(hjl:j+cs.length≤88)(hj:(rP v0 v1 fed done d).take j++(cs++(rP v0 v1 fed done d).drop (j+cs.length))=rP v0' v1' kT done' d')(h0:ShR w 0 v0' d'.d0)(h1:ShR w 0 v1' d'.d1):
 bR (w.setCells tb j cs) tb v0' v1' kT done' d'∧Ch (· =tb) w (w.setCells tb j cs):=by
 have hz:=size_setCells tb cs j w;have c:Ch (· =tb) w (w.setCells tb j cs):=⟨hz.2.1,hz.2.2.1,hz.2.2.2,by omega,fun i _ hn=>iR tb _ _ _ i hn⟩;exact⟨h.put (by rw[←hj];exact nO h.blk (by rw[Aq hl];exact hjl)) c h0 h1,c⟩
end
theorem gN{o:Oper}(ty:TypeId)(x y:Operand)(ho:o.op= .store ty x y)(hd:o.dst=none)(j:Nat)(cs:List Value)(hsz:(prog.info? ty).map (·.size)=some cs.length)(hx:a.eval x= .pointer (some ⟨tb,j,none⟩))(hy:a.eval y= .agg cs.toArray)(h1:∀v∈cs,v.oneCell'=true)(ht:bR u tb v0 v1 fed done d)(htl:d.tb.length=40)(hl:j+cs.length≤88)(hL:(rP v0 v1 fed done d).take j++(cs++(rP v0 v1 fed done d).drop (j+cs.length))=rP v0' v1' kT done' d')(h0:ShR u 0 v0' d'.d0)(h1':ShR u 0 v1' d'.d1)(h:∀u',bR u' tb v0' v1' kT done' d'→Ch (· =tb) u u'→K a u'):Oper.wp prog o a u K Q:=by
 obtain⟨t1,c1⟩:=ht.sets htl j cs hl hL h0 h1';refine wp_store_mid ty x y ho tb j cs.toArray hx hy (by simpa using vI ht.blk (by rw[Aq htl];exact hl)) (by simpa using hsz) (all_oneCell_toArray h1) ?_;rw[hd];exact h _ (by simpa using t1) (by simpa using c1)
theorem OE{ops:Array Oper}{rest:List Oper}{o:Oper}(hgd:o.guard=none)(ty:TypeId)(x y:Operand)(ho:o.op= .store ty x y)(hd:o.dst=none)(j:Nat)(cs:List Value)(hsz:(prog.info? ty).map (·.size)=some cs.length)(hx:a.eval x= .pointer (some ⟨tb,j,none⟩))(hy:a.eval y= .agg cs.toArray)(h1:∀v∈cs,v.oneCell'=true)(ht:bR u tb v0 v1 fed done d)(htl:d.tb.length=40)(hl:j+cs.length≤88)(hL:(rP v0 v1 fed done d).take j++(cs++(rP v0 v1 fed done d).drop (j+cs.length))=rP v0' v1' kT done' d')(h0:ShR u 0 v0' d'.d0)(h1':ShR u 0 v1' d'.d1)(h:∀u',bR u' tb v0' v1' kT done' d'→Ch (· =tb) u u'→wpList prog ops Q rest a u'):wpList prog ops Q (o::rest) a u:=
 oq hgd fun _ hK=>gN ty x y ho hd j cs hsz hx hy h1 ht htl hl hL h0 h1' (fun u' t1 c1=>hK _ _ (h u' t1 c1))
theorem sN{o:Oper}(ty:TypeId)(hsz:(prog.info? ty).map (·.size)=some 1)(x y:Operand)(ho:o.op= .store ty x y)(hd:o.dst=none)(j:Nat)(v:Value)(hx:a.eval x= .pointer (some ⟨tb,j,none⟩))(hy:a.eval y=v)(hv:v.cells= #[v])(h1:v.oneCell'=true)(ht:bR u tb v0 v1 fed done d)(htl:d.tb.length=40)(hj:j<88)(hL:(rP v0 v1 fed done d).set j v=rP v0' v1' kT done' d')(h0:ShR u 0 v0' d'.d0)(h1':ShR u 0 v1' d'.d1)(h:∀u',bR u' tb v0' v1' kT done' d'→Ch (· =tb) u u'→K a u'):Oper.wp prog o a u K Q:=by
 refine mh ty hsz x y ho hd tb j (rP v0 v1 fed done d) (rP v0' v1' kT done' d') v (by rw[Aq htl];exact hj) hx hy h1 hv hL 91 ht.blk ?_;intro u' g' c';exact h u' (ht.put g' c' h0 h1') c'
theorem dh(n lo hi:Int)(w:World):Calls prog 127 #[.int .i64 n,.int .i64 lo,.int .i64 hi] w fun e w'=>e= .returned (.int .i64 (DT.wi n lo hi))∧w'=w:=by
 unfold DT.wi;by_cases h1:hi<n
 ·rw[ak h1];by_cases h2:hi<lo
  ·rw[ak h2];go_enter func127,ntmps127;go_wp2_with fail;go_ret;exact⟨rfl,rfl⟩
  ·rw[ai h2];go_enter func127,ntmps127;go_wp2_with fail;go_ret;exact⟨rfl,rfl⟩
 ·rw[ai h1];by_cases h2:n<lo
  ·rw[ak h2];go_enter func127,ntmps127;go_wp2_with fail;go_ret;exact⟨rfl,rfl⟩
  ·rw[ai h2];go_enter func127,ntmps127;go_wp2_with fail;go_ret;exact⟨rfl,rfl⟩
theorem jl{o:Oper}{l:List Value}{ds:List Deferred}(d:Nat)(x:Operand)(ho:o.op= .load 87 x)(hd:o.dst=some d)(g off:Nat)(hx:Act.eval ⟨l.toArray,ds⟩ x= .pointer (some ⟨g,off,none⟩))(cs:List Value)(hl:cs.length=13)(hr:u.rangeAt g off cs)(h:K ⟨(l.set d (.agg cs.toArray)).toArray,ds⟩ u):Oper.wp prog o ⟨l.toArray,ds⟩ u K Q:=by rw[←BL, ←hd]at h;exact wp_load_mid 87 x ho g off hx cs _ hr underlying87 rfl (by rw[jP,hl]) h
theorem bR.sl0(h:bR w tb v0 v1 fed done d)(hs:d.t.shown=0):w.rangeAt tb 21 (aT v0 d.t.v0):=h.range 21 _ rfl
theorem bR.sl1(h:bR w tb v0 v1 fed done d):w.rangeAt tb 34 (aT v1 d.t.v1):=h.range 34 _ rfl
theorem af4(hs:d.t.shown=0)(r:bY):d.put r= {d with d0:=d.d0.set d.t.row.toNat r}:=by unfold DT.put DT.setCur DT.cur;rw[ak hs,ak hs]
theorem af5(hs:d.t.shown=1)(r:bY):d.put r= {d with d1:=d.d1.set d.t.row.toNat r}:=by unfold DT.put DT.setCur DT.cur;rw[ai (by omega),ai (by omega)]
theorem DT.Ok.rw(h:d.Ok):∃k:Nat,d.t.row=(k:Int)∧k<d.t.rows:=by have a:=h.inv.row0;have b:=h.inv.jK;have e:d.abs.row=d.t.row:=rfl;have e2:d.abs.rows=d.t.rows:=rfl;exact⟨d.t.row.toNat,by omega,by omega⟩
theorem qL(tb:Nat)(v0 v1:Value)(fed:ByteArray)(done:Nat)(d:DT)(w:World)(ht:bR w tb v0 v1 fed done d)(hok:d.Ok):Calls prog 124 #[.pointer (some ⟨tb,0,none⟩)] w fun e w'=>∃v,e= .returned v∧dF w' 0 v d.aP∧Sm w w':=by
 obtain⟨r,hr,hrr⟩:=hok.rw;have hsh:d.t.shown=0∨d.t.shown=1:=hok.inv.sh;rcases hsh with hs|hs
 ·have HS:=ht.h0;have lS:d.d0.length=d.t.rows:=by have:=hok.inv.l0;have e:d.abs.s0=dM d.d0:=rfl;rw[e,bF]at this;exact this
  obtain⟨a,cap,rfl,hcap,h3⟩:=HS;obtain⟨q,hq⟩:∃q,d.d0[r]? =some q:=⟨_,eG (by omega)⟩;obtain⟨b,o,vr,rfl,hB,hbl,hcell,RR⟩:=h3 r q hq;have hrn:d.aP=q:=by unfold DT.aP DT.cur;rw[ak hs,show d.t.row.toNat=r by omega];simp[List.getD,hq]
  rw[hrn];have c20:w.cell? ⟨tb,20,none⟩=some (.int .i64 0):=by rw[←hs];exact ht.c 20 _ rfl
  have c4:w.cell? ⟨tb,4,none⟩=some (.int .i64 (r:Int)):=by rw[←hr];exact ht.c 4 _ rfl
  have cS:w.cell? ⟨tb,21,none⟩=some (.slice (some ⟨b,o,none⟩) d.d0.length cap):=ht.c 21 _ rfl;have ir:(r:Int)<(d.d0.length:Int):=by omega
  have HRR:Hid (dF w 0 vr q):=RR;clear ht hok RR h3 hrn hq lS;go_enter func124,ntmps124;go_wp2_with fail;go_quiet (fail);go_wp2_with fail;go_ret;exact⟨_,rfl,HRR.o.sm ((Ch.refl _ _).drewN _),(Ch.refl _ _).drewN _⟩
 ·have HS:=ht.h1;have lS:d.d1.length=d.t.rows:=by have:=hok.inv.l1;have e:d.abs.s1=dM d.d1:=rfl;rw[e,bF]at this;exact this
  obtain⟨a,cap,rfl,hcap,h3⟩:=HS;obtain⟨q,hq⟩:∃q,d.d1[r]? =some q:=⟨_,eG (by omega)⟩;obtain⟨b,o,vr,rfl,hB,hbl,hcell,RR⟩:=h3 r q hq;have hrn:d.aP=q:=by unfold DT.aP DT.cur;rw[ai (by omega),show d.t.row.toNat=r by omega];simp[List.getD,hq]
  rw[hrn];have c20:w.cell? ⟨tb,20,none⟩=some (.int .i64 1):=by rw[←hs];exact ht.c 20 _ rfl
  have c4:w.cell? ⟨tb,4,none⟩=some (.int .i64 (r:Int)):=by rw[←hr];exact ht.c 4 _ rfl
  have cS:w.cell? ⟨tb,34,none⟩=some (.slice (some ⟨b,o,none⟩) d.d1.length cap):=ht.c 34 _ rfl;have ir:(r:Int)<(d.d1.length:Int):=by omega
  have HRR:Hid (dF w 0 vr q):=RR;clear ht hok RR h3 hrn hq lS;go_enter func124,ntmps124;go_wp2_with fail;go_quiet (fail);go_wp2_with fail;go_ret;exact⟨_,rfl,HRR.o.sm ((Ch.refl _ _).drewN _),(Ch.refl _ _).drewN _⟩
theorem qK(tb:Nat)(v0 v1 vr:Value)(fed:ByteArray)(done:Nat)(d:DT)(q:bY)(w:World)(ht:bR w tb v0 v1 fed done d)(hok:d.Ok)(hq:dF w 0 vr q):Calls prog 125 #[.pointer (some ⟨tb,0,none⟩),vr] w fun e w'=>e= .returned (.tuple #[])∧∃v0' v1',bR w' tb v0' v1' fed done (d.put q)∧Ch (· =tb) w w':=by
 obtain⟨r,hr,hrr⟩:=hok.rw;have hsh:d.t.shown=0∨d.t.shown=1:=hok.inv.sh;rcases hsh with hs|hs
 ·have lS:d.d0.length=d.t.rows:=by have:=hok.inv.l0;have e:d.abs.s0=dM d.d0:=rfl;rw[e,bF]at this;exact this
  have hr2:=hok.inv.r2;have er2:d.abs.rows=d.t.rows:=rfl;have htl:=hok.tl;rw[af4 hs,show d.t.row.toNat=r by omega];have HT0:bR ({w with drawn:=w.drawn+1}:World) tb v0 v1 fed done d:=ht.sm ((Ch.refl _ _).drewN 1);have c20:World.cell? ({w with drawn:=w.drawn+1}:World) ⟨tb,20,none⟩=some (.int .i64 0):=by rw[←hs];exact HT0.c 20 _ rfl
  have c4:World.cell? ({w with drawn:=w.drawn+1}:World) ⟨tb,4,none⟩=some (.int .i64 (r:Int)):=by rw[←hr];exact HT0.c 4 _ rfl
  have HH:World.cell? ({w with drawn:=w.drawn+1}:World) ⟨tb,20,none⟩=some (.int .i64 0)∧World.cell? ({w with drawn:=w.drawn+1}:World) ⟨tb,4,none⟩=some (.int .i64 (r:Int)):=⟨c20,c4⟩;have uF:World.rangeAt ({w with drawn:=w.drawn+1}:World) tb 21 (aT v0 d.t.v0):=HT0.sl0 hs;have lw:=Ce v0 vr d.d0 d.t.v0 r q 0 ({w with drawn:=w.drawn+1}:World) HT0.h0 (hq.sm ((Ch.refl _ _).drewN 1)) (by omega) (dx _);clear c20 c4;go_enter func125,ntmps125;go_wp2_with fail;refine dX (S:=fun x=>x.cell? ⟨tb,20,none⟩=some (.int .i64 0)∧x.cell? ⟨tb,4,none⟩=some (.int .i64 (r:Int))) aX ?_;refine ay 0 1 2 3 HH ?_;simp only[ag,af];refine ay 4 5 6 7 HH ?_;simp only[ag,af];refine ay 8 9 10 11 HH ?_;simp only[ag,af];refine dW 12 13 HH ?_;refine aj 14 HH ?_ (v:=.pointer (some ⟨tb,21,none⟩));refine aj 16 HH ?_;simp only[ag,af];refine ay 17 18 19 20 HH ?_;simp only[ag,af];refine ay 21 22 24 25 HH ?_;simp only[ag,af];refine av 15 ?_;refine jl 19 (.tmp 18) rfl rfl tb 21 rfl (aT v0 d.t.v0) rfl uF ?_;refine⟨HH,?_⟩;simp only[ag,af];refine av 23 ?_;refine a_ (vs:=[.agg (aT v0 d.t.v0).toArray,.int .i64 (r:Int),vr]) (R:=fun v w'=>∃v',v= .agg (aT v' d.t.v0).toArray∧ShR w' 0 v' (d.d0.set r q)∧Below w.heap.size w w') (lw.mono fun e w' h=>by obtain⟨v',h1,h2,h3⟩:=h;exact⟨_,h1,v',rfl,h2,⟨h3.os,h3.tape,h3.output,h3.size,h3.block⟩⟩) ?_;rintro v2 w1 ⟨v',rfl,hS',b1⟩;have ht1:bR w1 tb v0 v1 fed done d:=ht.sm (Ch.of_below b1);have Cy:w1.cell? ⟨tb,20,none⟩=some (.int .i64 0)∧w1.cell? ⟨tb,4,none⟩=some (.int .i64 (r:Int)):=⟨by rw[←hs];exact ht1.c 20 _ rfl,by rw[←hr];exact ht1.c 4 _ rfl⟩;refine⟨Cy,?_⟩;simp only[ag,af];refine aj 26 Cy ?_ (v:=.pointer (some ⟨tb,21,none⟩));simp only[ag,af];have hv1:v'.oneCell'=true:=by obtain⟨a,c,e,_⟩:=hS';rw[e];rfl
  refine av 27 ?_;refine gN 87 (.tmp 30) (.tmp 27) rfl rfl (v0':=v') (v1':=v1) (kT:=fed) (done':=done) (d':={d with d0:=d.d0.set r q}) 21 (aT v' d.t.v0) jP rfl rfl (j5 hv1 _) ht1 htl (by simp[aT,aB]) rfl hS' ht1.h1 ?_;intro u2 t2 c2;have I4:u2.cell? ⟨tb,20,none⟩=some (.int .i64 0)∧u2.cell? ⟨tb,4,none⟩=some (.int .i64 (r:Int)):=⟨by rw[←hs];exact t2.c 20 _ rfl,by rw[←hr];exact t2.c 4 _ rfl⟩;refine⟨I4,?_⟩;refine aC ?_;have HT2:Hid _:=t2;have n_:Hid (Ch (· =tb) w u2):=(Sm.ch (Ch.of_below b1)).trans c2;clear t2 c2 b1 hS' ht1 HH Cy I4 HT0 uF lw;go_wp2_with fail;go_end0;exact⟨rfl,_,_,HT2.o,n_.o⟩
 ·have lS:d.d1.length=d.t.rows:=by have:=hok.inv.l1;have e:d.abs.s1=dM d.d1:=rfl;rw[e,bF]at this;exact this
  have hr2:=hok.inv.r2;have er2:d.abs.rows=d.t.rows:=rfl;have htl:=hok.tl;rw[af5 hs,show d.t.row.toNat=r by omega];have HT0:bR ({w with drawn:=w.drawn+1}:World) tb v0 v1 fed done d:=ht.sm ((Ch.refl _ _).drewN 1);have c20:World.cell? ({w with drawn:=w.drawn+1}:World) ⟨tb,20,none⟩=some (.int .i64 1):=by rw[←hs];exact HT0.c 20 _ rfl
  have c4:World.cell? ({w with drawn:=w.drawn+1}:World) ⟨tb,4,none⟩=some (.int .i64 (r:Int)):=by rw[←hr];exact HT0.c 4 _ rfl
  have HH:World.cell? ({w with drawn:=w.drawn+1}:World) ⟨tb,20,none⟩=some (.int .i64 1)∧World.cell? ({w with drawn:=w.drawn+1}:World) ⟨tb,4,none⟩=some (.int .i64 (r:Int)):=⟨c20,c4⟩;have uF:World.rangeAt ({w with drawn:=w.drawn+1}:World) tb 34 (aT v1 d.t.v1):=HT0.sl1;have lw:=Ce v1 vr d.d1 d.t.v1 r q 0 ({w with drawn:=w.drawn+1}:World) HT0.h1 (hq.sm ((Ch.refl _ _).drewN 1)) (by omega) (dx _);clear c20 c4;go_enter func125,ntmps125;go_wp2_with fail;refine dX (S:=fun x=>x.cell? ⟨tb,20,none⟩=some (.int .i64 1)∧x.cell? ⟨tb,4,none⟩=some (.int .i64 (r:Int))) aX ?_;refine ay 0 1 2 3 HH ?_;simp only[ag,af];refine ay 4 5 6 7 HH ?_;simp only[ag,af];refine ay 8 9 10 11 HH ?_;simp only[ag,af];refine dW 12 13 HH ?_;refine aj 14 HH ?_ (v:=.pointer (some ⟨tb,34,none⟩));refine aj 16 HH ?_;simp only[ag,af];refine ay 17 18 19 20 HH ?_;simp only[ag,af];refine ay 21 22 24 25 HH ?_;simp only[ag,af];refine av 15 ?_;refine jl 19 (.tmp 18) rfl rfl tb 34 rfl (aT v1 d.t.v1) rfl uF ?_;refine⟨HH,?_⟩;simp only[ag,af];refine av 23 ?_;refine a_ (vs:=[.agg (aT v1 d.t.v1).toArray,.int .i64 (r:Int),vr]) (R:=fun v w'=>∃v',v= .agg (aT v' d.t.v1).toArray∧ShR w' 0 v' (d.d1.set r q)∧Below w.heap.size w w') (lw.mono fun e w' h=>by obtain⟨v',h1,h2,h3⟩:=h;exact⟨_,h1,v',rfl,h2,⟨h3.os,h3.tape,h3.output,h3.size,h3.block⟩⟩) ?_;rintro v2 w1 ⟨v',rfl,hS',b1⟩;have ht1:bR w1 tb v0 v1 fed done d:=ht.sm (Ch.of_below b1);have Cy:w1.cell? ⟨tb,20,none⟩=some (.int .i64 1)∧w1.cell? ⟨tb,4,none⟩=some (.int .i64 (r:Int)):=⟨by rw[←hs];exact ht1.c 20 _ rfl,by rw[←hr];exact ht1.c 4 _ rfl⟩;refine⟨Cy,?_⟩;simp only[ag,af];refine aj 26 Cy ?_ (v:=.pointer (some ⟨tb,34,none⟩));simp only[ag,af];have hv1:v'.oneCell'=true:=by obtain⟨a,c,e,_⟩:=hS';rw[e];rfl
  refine av 27 ?_;refine gN 87 (.tmp 30) (.tmp 27) rfl rfl (v0':=v0) (v1':=v') (kT:=fed) (done':=done) (d':={d with d1:=d.d1.set r q}) 34 (aT v' d.t.v1) jP rfl rfl (j5 hv1 _) ht1 htl (by simp[aT,aB]) rfl ht1.h0 hS' ?_;intro u2 t2 c2;have I4:u2.cell? ⟨tb,20,none⟩=some (.int .i64 1)∧u2.cell? ⟨tb,4,none⟩=some (.int .i64 (r:Int)):=⟨by rw[←hs];exact t2.c 20 _ rfl,by rw[←hr];exact t2.c 4 _ rfl⟩;refine⟨I4,?_⟩;refine aC ?_;have HT2:Hid _:=t2;have n_:Hid (Ch (· =tb) w u2):=(Sm.ch (Ch.of_below b1)).trans c2;clear t2 c2 b1 hS' ht1 HH Cy I4 HT0 uF lw;go_wp2_with fail;go_end0;exact⟨rfl,_,_,HT2.o,n_.o⟩
end Go.Proofs.YtheibfffilomcaaGreatDoor
