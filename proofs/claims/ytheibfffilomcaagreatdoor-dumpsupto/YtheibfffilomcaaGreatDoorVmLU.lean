import Derived.Test.YtheibfffilomcaaGreatDoorTmaU
import Derived.Test.YtheibfffilomcaaGreatDoorGg
import Derived.Test.YtheibfffilomcaaGreatDoorZnU
import Derived.Test.YtheibfffilomcaaGreatDoorXeU
import Derived.Test.YtheibfffilomcaaGreatDoorVnU
import Derived.Test.YtheibfffilomcaaGreatDoorVtU
set_option linter.all false
namespace Go.Proofs.YtheibfffilomcaaGreatDoor
open Go.RowKit Go.Proofs.Tryz
variable {w:World} {Q:Exit→Act→World→Prop} {ops:Array Oper} {ds:List Deferred} {rest:List Oper} {d ah b:Nat} {v:Value} {S:cz} {a:Act} {r:bY} {x:Operand}
theorem Mo(x:WS)(p:fO):x.turn p=⟨x.tx++wG x.pen p,p⟩:=by
 unfold WS.turn wG WS.seq WS.put;by_cases h:p=x.pen
 ·rw[ak h,ak h,gp,h]
 ·rw[ai h,ai h]
theorem BH(x:WS)(r c:Int):x.place r c=⟨x.tx++([27,91]++(lY r c++[72])),x.pen⟩:=rfl
theorem LP(x:WS)(c:aI)(h:c.part≠2):x.cell c=⟨x.tx++(wG x.pen c.p++oP c.r),c.p⟩:=by unfold WS.cell;rw[ai h,Mo];simp[WS.put]
structure Ju (Sh:bS) (p:di) (R:List aI):Prop where
 row:Sh.getD p.row.toNat []=R
 wt:p.waits=true→p.col=(R.length:Int)-1
 len:1≤R.length
 l2:(R.getD (R.length-1) aD).part=2→2≤R.length
 np:(R.getD (jY R) aD).part≠2
theorem Y1(x:WS)(Sh:bS)(p:di)(R:List aI)(row:Int)(h:Ju Sh p R):x.rH Sh p row=⟨x.tx++u_ x.pen R p row,w_ x.pen R p⟩:=by
 unfold WS.rH u_ w_;cases hw:p.waits with
 |false=>simp[BH]
 |true=>
  have hc:=h.wt hw;have hl:=h.len;have hn:=h.np;have hl2:=h.l2;have e0:WS.cellAt Sh p.row p.col=R.getD (R.length-1) aD:=by unfold WS.cellAt;rw[h.row,hc];congr 1;omega
  simp only[if_true];unfold WS.bP;rw[e0];by_cases hp:(R.getD (R.length-1) aD).part=2
  ·have h2:=hl2 hp;have el:jY R=R.length-2:=by unfold jY;rw[ak hp]
   have e1:WS.cellAt Sh p.row (p.col-1)=R.getD (jY R) aD:=by unfold WS.cellAt;rw[h.row,hc,el];congr 1;omega
   rw[ak hp,e1,BH,LP _ _ hn];have ec:p.col-1=((jY R:Nat):Int):=by rw[el,hc];omega
   rw[ec];simp
  ·have el:jY R=R.length-1:=by unfold jY;rw[ai hp]
   have ec:p.col=((jY R:Nat):Int):=by rw[el,hc];omega
   rw[ai hp,BH, ←el,LP _ _ hn,ec];simp
theorem Ef(x:WS)(Sh:bS)(p:di)(R:List aI)(top:Int)(h:Ju Sh p R):x.aZ Sh p top=⟨x.tx++o5 x.pen R p top,p.pen⟩:=by
 have h1:x.q9 p=⟨x.tx++(if p.origin then[27,91,63,54,104]else[]),x.pen⟩:=by unfold WS.q9 WS.seq WS.put;cases p.origin<;>simp
 have h4:∀y:WS,y.rQ p=⟨y.tx++(if p.first=1 then[27,40,48]else[]),y.pen⟩:=fun y=>by unfold WS.rQ WS.put;split<;>simp
 have h5:∀y:WS,y.sK p=⟨y.tx++(if p.second=1 then[27,41,48]else[]),y.pen⟩:=fun y=>by unfold WS.sK WS.put;split<;>simp
 have h6:∀y:WS,y.sU p=⟨y.tx++(if p.use=1 then[14]else[]),y.pen⟩:=fun y=>by unfold WS.sU WS.put;split<;>simp
 unfold WS.aZ;rw[h1,Y1 _ _ _ R _ h,Mo,h4,h5,h6];unfold o5;simp only[f_]
theorem RI(x:WS)(Sh:bS)(p:di)(R:List aI)(h:Ju Sh p R):x.saved Sh p=⟨mH x R p,jG x p⟩:=by
 have h1:∀y:WS,y.bk1 p=⟨y.tx++(if p.origin then[27,91,63,54,108]else[]),y.pen⟩:=fun y=>by unfold WS.bk1 WS.seq WS.put;cases p.origin<;>simp
 have h2:∀y:WS,y.bk2 p=⟨y.tx++(if p.first=1 then[27,40,66]else[]),y.pen⟩:=fun y=>by unfold WS.bk2 WS.put;split<;>simp
 have h3:∀y:WS,y.y_ p=⟨y.tx++(if p.second=1 then[27,41,66]else[]),y.pen⟩:=fun y=>by unfold WS.y_ WS.put;split<;>simp
 have h4:∀y:WS,y.zn p=⟨y.tx++(if p.use=1 then[15]else[]),y.pen⟩:=fun y=>by unfold WS.zn WS.put;split<;>simp
 unfold WS.saved mH jG;by_cases hp:p=aY
 ·rw[ak hp,ak hp,ak hp]
 ·rw[ai hp,ai hp,ai hp,Ef x Sh p R 0 h];unfold WS.bW;rw[h1,h2,h3,h4];unfold zI WS.put;simp only[f_]
theorem D7(q:fO)(Sh:bS)(p:di)(R:List aI)(h:Ju Sh p R):(⟨[],q⟩:WS).screen Sh p=⟨mH (WS.fu ⟨[],q⟩ 0 Sh) R p,jG (WS.fu ⟨[],q⟩ 0 Sh) p⟩:=RI _ Sh p R h
theorem Oo:∀(l:List Bool) (a b:WS) (k:Nat) (t:List Int),a.tx=t++b.tx→(WS.l_ a k l).tx=t++(WS.l_ b k l).tx∧(WS.l_ a k l).pen=a.pen:=by
 intro l;induction l with
 |nil=>intro a b k t h;exact⟨h,rfl⟩
 |cons c l ih=>
  intro a b k t h;have h1:(a.uE k c).tx=t++(b.uE k c).tx:=by unfold WS.uE WS.seq WS.put;cases c<;>simp[h]
  have h2:(a.uE k c).pen=a.pen:=by unfold WS.uE WS.seq WS.put;cases c<;>simp
  have h3:=ih (a.uE k c) (b.uE k c) (k+1) t h1;exact⟨h3.1,h3.2.trans h2⟩
theorem Qq(d:DT)(hs:d.t.shown=0∨d.t.shown=1)(R0 R1 RS:List aI)(h0:Ju d.abs.s0 d.t.v0 R0)(h1:Ju d.abs.s1 d.t.v1 R1)(hS:Ju d.abs.cur d.abs.spot RS):
 Gz d.abs=GD d (mH (WS.fu ⟨[],mO⟩ 0 d.abs.s0) R0 d.t.v0) (mH (WS.fu ⟨[],jG (WS.fu ⟨[],mO⟩ 0 d.abs.s0) d.t.v0⟩ 0 d.abs.s1) R1 d.t.v1) (jG (WS.fu ⟨[],mO⟩ 0 d.abs.s0) d.t.v0) (jG (WS.fu ⟨[],jG (WS.fu ⟨[],mO⟩ 0 d.abs.s0) d.t.v0⟩ 0 d.abs.s1) d.t.v1)
  (o5 (qh d (mH (WS.fu ⟨[],jG (WS.fu ⟨[],mO⟩ 0 d.abs.s0) d.t.v0⟩ 0 d.abs.s1) R1 d.t.v1) (jG (WS.fu ⟨[],mO⟩ 0 d.abs.s0) d.t.v0) (jG (WS.fu ⟨[],jG (WS.fu ⟨[],mO⟩ 0 d.abs.s0) d.t.v0⟩ 0 d.abs.s1) d.t.v1)) RS d.t.spot d.t.top):=by
 have e0:=D7 mO d.abs.s0 d.t.v0 R0 h0;generalize hT1:mH (WS.fu ⟨[],mO⟩ 0 d.abs.s0) R0 d.t.v0=t1 at*;generalize Zg:jG (WS.fu ⟨[],mO⟩ 0 d.abs.s0) d.t.v0=q1 at*;have e1:=D7 q1 d.abs.s1 d.t.v1 R1 h1;generalize hT2:mH (WS.fu ⟨[],q1⟩ 0 d.abs.s1) R1 d.t.v1=t2 at*;generalize Zh:jG (WS.fu ⟨[],q1⟩ 0 d.abs.s1) d.t.v1=q2 at*;have hsc:WS.zero.fV d.abs=⟨uZ d t1 t2,qh d t2 q1 q2⟩:=by
  unfold WS.fV;have ez:WS.zero.screen d.abs.s0 d.abs.v0=⟨t1,q1⟩:=e0;rw[ez,WS.KC ⟨t1,q1⟩ d.abs hs];have e1':(⟨[],(⟨t1,q1⟩:WS).pen⟩:WS).screen d.abs.s1 d.abs.v1=⟨t2,q2⟩:=e1;rw[e1'];unfold uZ qh;show(if d.t.shown=1∨t2≠[]then _ else _)=_;by_cases hc:d.t.shown=1∨t2≠[]
  ·rw[ak hc,ak hc,ak hc];show(if d.t.shown=0 then _ else _)=_;by_cases hz:d.t.shown=0
   ·rw[ak hz,ak hz];simp
   ·rw[ai hz,ai hz];simp
  ·rw[ai hc,ai hc,ai hc]
 generalize hQ3:qh d t2 q1 q2=q3 at*;have ht:(WS.zero.fV d.abs).tabs d.abs=⟨LW d t1 t2,q3⟩:=by
  rw[hsc];unfold WS.tabs LW;by_cases hb:WS.lg 0 d.abs.tabs=true
  ·rw[ak hb,ak hb,gp]
  ·rw[ai hb,ai hb];have h9:=Oo d.abs.tabs ((⟨uZ d t1 t2,q3⟩:WS).seq [51,103]) ⟨[27,91,51,103],mO⟩ 0 (uZ d t1 t2) rfl;have:∀x:WS,x=⟨x.tx,x.pen⟩:=fun x=>rfl;rw[this (WS.l_ _ 0 _),h9.1,h9.2];rfl
 have hr:((WS.zero.fV d.abs).tabs d.abs).region d.abs=⟨uP d t1 t2,q3⟩:=by rw[ht];unfold WS.region uP;show(if d.t.top≠0∨d.t.bottom≠(d.t.rows:Int)-1 then _ else _)=_;split<;>simp[WS.seq,WS.put];rfl
 have hc:(((WS.zero.fV d.abs).tabs d.abs).region d.abs).lM d.abs=⟨LX d t1 t2 (o5 q3 RS d.t.spot d.t.top),if uP d t1 t2≠[]∨d.t.spot≠aY then d.t.spot.pen else q3⟩:=by
  rw[hr];unfold WS.lM LX;have es:d.abs.spot=d.t.spot:=rfl;rw[es];by_cases hx:uP d t1 t2≠[]∨d.t.spot≠aY
  ·have hn:¬(d.t.spot=aY∧(⟨uP d t1 t2,q3⟩:WS).tx.length=0):=by
    rintro⟨a,b⟩;rcases hx with x|x
    ·exact x (zT b)
    ·exact x a
   rw[ai hn,ak hx,ak hx, ←es,Ef _ _ _ RS _ hS];rfl
  ·have hn:d.t.spot=aY∧(⟨uP d t1 t2,q3⟩:WS).tx.length=0:=by refine⟨Classical.byContradiction fun a=>hx (.inr a),?_⟩;have:uP d t1 t2=[]:=Classical.byContradiction fun a=>hx (.inl a);show(uP d t1 t2).length=0;rw[this];rfl
   rw[ak hn,ai hx,ai hx,gp]
 unfold Gz WS.all;rw[hc];unfold WS.zL WS.zK GD;show(if d.t.wrap=true then _ else _:WS).tx=_;have ei:d.abs.insert=d.t.insert:=rfl;rw[ei];cases d.t.wrap<;>cases d.t.insert<;>simp[WS.seq,WS.put]
theorem eD.afV{r:List aI}(h:eD r):∀k,k<r.length→
 ((r.getD k aD).part=0∧j_ (r.getD k aD).r=1)∨
 ((r.getD k aD).part=1∧j_ (r.getD k aD).r=2∧k+1<r.length∧r.getD (k+1) aD=jQ (r.getD k aD))∨
 (1≤k∧(r.getD (k-1) aD).part=1∧r.getD k aD=jQ (r.getD (k-1) aD)):=by
 induction h with
 |nil=>intro k hk;simp at hk
 |one c r hp hw hs h ih=>
  intro k hk;cases k with
  |zero=>left;exact⟨hp,hw⟩
  |succ k=>
   have hk':k<r.length:=by simpa using hk
   rcases ih k hk' with h1|⟨h1,h2,h3,h4⟩|⟨h1,h2,h3⟩
   ·left;exact h1
   ·right;left;exact⟨h1,h2,by simpa using h3,h4⟩
   ·right;right;obtain⟨j,rfl⟩:∃j,k=j+1:=⟨k-1,by omega⟩;exact⟨by omega,h2,h3⟩
 |two c r hp hw hs h ih=>
  intro k hk
  match k,hk with
  | 0,_=>right;left;exact⟨hp,hw,by simp,rfl⟩
  | 1,_=>right;right;exact⟨bN 1,hp,rfl⟩
  |k+2,hk=>
   have hk':k<r.length:=by simp at hk;omega
   rcases ih k hk' with h1|⟨h1,h2,h3,h4⟩|⟨h1,h2,h3⟩
   ·left;exact h1
   ·right;left;exact⟨h1,h2,by simp;omega,h4⟩
   ·right;right;obtain⟨j,rfl⟩:∃j,k=j+1:=⟨k-1,by omega⟩;exact⟨by omega,h2,h3⟩
theorem DJ{R:List aI}(h:eD R)(hl:1≤R.length):((R.getD (R.length-1) aD).part=2→2≤R.length)∧(R.getD (jY R) aD).part≠2∧jY R<R.length:=by
 have hn:=h.afV (R.length-1) (by omega);have hz:(aD.part:Int)≠2:=by decide
 rcases hn with⟨a,_⟩|⟨a,_,b,_⟩|⟨a,b,c⟩
 ·have el:jY R=R.length-1:=by unfold jY;rw[ai (by omega)]
  exact⟨fun x=>by omega,by rw[el];omega,by rw[el];omega⟩
 ·omega
 ·have hp:(R.getD (R.length-1) aD).part=2:=by rw[c];rfl
  have el:jY R=R.length-2:=by unfold jY;rw[ak hp]
  refine⟨fun _=>by omega,?_,by rw[el];omega⟩;rw[el,show R.length-2=R.length-1-1 by omega];omega
theorem Ju.of{Sh:bS}{p:di}{rows:Nat}(hl:Sh.length=rows)(hg:GoodS ah Sh)(hc:1≤ah)(hr:0≤p.row∧p.row<(rows:Int))(hf:p.Fit ah):Ju Sh p (Sh.getD p.row.toNat []):=by have hm:Sh.getD p.row.toNat []∈Sh:=Bt _ _ _ (by omega);have hgr:=hg _ hm;have hL:(Sh.getD p.row.toNat []).length=ah:=hgr.2;have k:=DJ hgr.1 (by omega);exact⟨rfl,fun w=>by rw[hL];exact hf.w w,by omega,k.1,k.2.1⟩
theorem zO(h:r∈S):strip r∈dM S:=List.mem_map.2 ⟨r,h,rfl⟩
theorem KP{c:DC}(h:c∈r):c.1∈strip r:=List.mem_map.2 ⟨c,h,rfl⟩
theorem Ky(q:fO)(R:List aI)(p:di)(hp:p.pen.Ok):(zI q R p).length≤300:=by
 have h:=vD q R p 0 hp;have a1:(if p.origin then([27,91,63,54,108]:List Int)else[]).length≤5:=by split<;>simp
 have a2:(if p.first=1 then([27,40,66]:List Int)else[]).length≤3:=by split<;>simp
 have a3:(if p.second=1 then([27,41,66]:List Int)else[]).length≤3:=by split<;>simp
 have a4:(if p.use=1 then([15]:List Int)else[]).length≤1:=by split<;>simp
 unfold zI;simp only[fU,fE,eP];omega
structure ShT (S:cz) (rows ah:Nat):Prop where
 len:S.length=rows
 good:GoodS ah (dM S)
theorem ShT.cells{rows:Nat}(h:ShT S rows ah):∀r∈S,∀c∈r,c.1.part=2∨c.1.Ok:=fun r hr c hc=>(h.good _ (zO hr)).1.parts c.1 (KP hc)
theorem ShT.rl{rows:Nat}(h:ShT S rows ah):∀r∈S,r.length=ah:=fun r hr=>by have:=(h.good _ (zO hr)).2;rwa[aU]at this
theorem ShT.row{rows:Nat}(h:ShT S rows ah)(hc:1≤ah)(p:di)(hp:0≤p.row∧p.row<(rows:Int)):∃(pr:Nat) (r:bY),p.row=(pr:Int)∧S[pr]? =some r∧(dM S).getD p.row.toNat []=strip r∧(((strip r).getD (r.length-1) aD).part=2→2≤r.length)∧((strip r).getD (jY (strip r)) aD).Ok:=by obtain⟨pr,hpr⟩:∃n:Nat,p.row=(n:Int):=⟨p.row.toNat,by omega⟩;have hl:=h.len;obtain⟨r,hr⟩:∃r,S[pr]? =some r:=⟨_,eG (by omega)⟩;have hm:=iH hr;have hg:=h.good _ (zO hm);have hrl:=h.rl r hm;have k:=DJ hg.1 (by rw[aU];omega);rw[aU]at k;refine⟨pr,r,hpr,hr,by rw[gV,hpr,lF];simp[List.getD,hr],k.1,?_⟩;have hmem:(strip r).getD (jY (strip r)) aD∈strip r:=Bt _ _ _ (by rw[aU];exact k.2.2);exact(hg.1.parts _ hmem).resolve_left k.2.1
theorem NR(S:cz)(rows ah:Nat)(h:ShT S rows ah)(hr:rows≤12)(hc:ah≤40)(q:fO):(WS.fu ⟨[],q⟩ 0 (dM S)).tx.length≤20000:=by
 have key:∀(T:bS) (x:WS) (i:Nat),(∀r∈T,r.length≤40)→(WS.fu x i T).tx.length≤x.tx.length+1280*T.length:=by
  intro T;induction T with
  |nil=>intro x i _;exact Nat.le_add_right _ _
  |cons r T ih=>intro x i hT;have h1:=ih (WS.runs i x 0 aD r) (i+1) (fun q hq=>hT q (by simp[hq]));have h2:=yG i r x 0 aD;have h3:=hT r (by simp);show(WS.fu (WS.runs i x 0 aD r) (i+1) T).tx.length≤_;rw[fE];omega
 have h9:=key (dM S) ⟨[],q⟩ 0 (fun r hr'=>by have:=(h.good r hr').2;omega);rw[bF,h.len]at h9;have h0:(⟨[],q⟩:WS).tx.length=0:=rfl;omega
theorem Ai(v:Value)(S:cz)(p:di)(q:fO)(rows ah:Nat)(w:World)(hS:ShR w 0 v S)(h:ShT S rows ah)(hr:rows≤12)(hc:1≤ah∧ah≤40)(hp:0≤p.row∧p.row<(rows:Int))(hpc:0≤p.col∧p.col<(ah:Int))(Nk:p.pen.Ok):Calls prog 66 #[.agg (aT v p).toArray,.agg (aW q)] w fun e w'=>∃s:ByteArray,e= .returned (.tuple #[.string s,.agg (aW (jG (WS.fu ⟨[],q⟩ 0 (dM S)) p))])∧bl s=mH (WS.fu ⟨[],q⟩ 0 (dM S)) ((dM S).getD p.row.toNat []) p∧s.size≤21000∧Sm w w':=by
 obtain⟨pr,r,h1,h2,h3,h4,h5⟩:=h.row hc.1 p hp;have hX:=NR S rows ah h hr hc.2 q;refine(Kz v S p q w hS pr r h1 h2 (by rw[h.len];exact hr) (fun r hr'=>by rw[h.rl r hr'];exact hc) h.cells (by omega) (by omega) Nk h4 h5 _ rfl hX).mono ?_;rintro e w' ⟨s,e1,e2,e3⟩;refine⟨s,e1,by rw[e2,h3],?_,e3⟩;rw[←cZ,e2];have h6:=Ky (WS.fu ⟨[],q⟩ 0 (dM S)).pen (strip r) p Nk;unfold mH;split
 ·omega
 ·rw[fU];omega
theorem Qg(tb:Nat)(v0 v1:Value)(fed:ByteArray)(done:Nat)(d:DT)(w:World)(ht:bR w tb v0 v1 fed done d)(hok:d.Ok):Calls prog 31 #[.pointer (some ⟨tb,0,none⟩)] w fun e w'=>∃s:ByteArray,e= .returned (.string s)∧bl s=Gz d.abs∧Sm w w':=by
 have hO:=uM.of hok.inv hok.fit;have hC:=Da.of hok.inv hok.fit;have hr2:d.t.rows≤12:=hok.inv.r2;have hc1:1≤d.t.ah:=hok.inv.c1;have hc2:d.t.ah≤40:=hok.inv.c2;have hs:d.t.shown=0∨d.t.shown=1:=hok.inv.sh;have g0:ShT d.d0 d.t.rows d.t.ah:=⟨hok.ls0,hok.fit.g0⟩;have g1:ShT d.d1 d.t.rows d.t.ah:=⟨hok.ls1,hok.fit.g1⟩;have s0:zl d.abs d.t.v0:=hO.v 0 (by omega);have s1:zl d.abs d.t.v1:=hO.v 1 (by omega);have sS:zl d.abs d.t.spot:=hC.v;have e0:Ju d.abs.s0 d.t.v0 _:=Ju.of (rows:=d.t.rows) (ah:=d.t.ah) (by show(dM d.d0).length=_;rw[bF];exact g0.len) g0.good hc1 s0.r s0.fit;have e1:Ju d.abs.s1 d.t.v1 _:=Ju.of (rows:=d.t.rows) (ah:=d.t.ah) (by show(dM d.d1).length=_;rw[bF];exact g1.len) g1.good hc1 s1.r s1.fit;have gc:ShT d.cur d.t.rows d.t.ah:=by unfold DT.cur;split<;>assumption
 have ec:d.abs.cur=dM d.cur:=d.ry;have eS:Ju d.abs.cur d.abs.spot _:=Ju.of (rows:=d.t.rows) (ah:=d.t.ah) (by rw[ec,bF];exact gc.len) (by rw[ec];exact gc.good) hc1 sS.r sS.fit;rw[Qq d hs _ _ _ e0 e1 eS];refine M3 tb v0 v1 fed done d w ht hok _ _ _ _ (fun u hu=>?_) (fun u hu=>?_) _ (fun u hu=>?_)
 ·exact Ai v0 d.d0 d.t.v0 mO d.t.rows d.t.ah u (ht.sm hu).h0 g0 hr2 ⟨hc1,hc2⟩ s0.r s0.c s0.fit.p
 ·exact Ai v1 d.d1 d.t.v1 _ d.t.rows d.t.ah u (ht.sm hu).h1 g1 hr2 ⟨hc1,hc2⟩ s1.r s1.c s1.fit.p
 ·obtain⟨pr,r,k1,k2,k3,k4,k5⟩:=gc.row hc1 d.t.spot sS.r;have hmem:=iH k2;have hrl:=gc.rl r hmem;have a1:0≤d.t.top:=hok.inv.iO;have a2:d.t.top≤d.t.bottom:=hok.inv.tb;have a3:d.t.bottom<(d.t.rows:Int):=hok.inv.bot;have QO:=sS.c;have ecs:d.abs.ah=d.t.ah:=rfl;have UQ:ShR u 0 (if d.t.shown=0 then v0 else v1) d.cur:=by unfold DT.cur;split;exact(ht.sm hu).h0;exact(ht.sm hu).h1
  have hRS:d.abs.cur.getD d.abs.spot.row.toNat []=strip r:=by rw[ec];exact k3
  rw[hRS];refine(Iy _ d.cur _ d.t.spot d.t.top _ u UQ pr r k1 k2 (by rw[gc.len];exact hr2) (by rw[hrl];exact⟨hc1,hc2⟩) (by omega) (by omega) (fun ho=>hC.o ho) sS.fit.p k4 k5).mono ?_;rintro e w' ⟨s,h1,h2,h3⟩;exact⟨s,h1,h2,by rw[←cZ,h2];exact vD _ _ _ _ sS.fit.p,h3⟩
theorem Ma(n:Int)(w:World):Calls prog 24 #[.int .i64 n] w fun e w'=>e= .returned (.int .i64 n)∧w'=w:=by go_enter func24,ntmps24;go_wp2_with fail;go_ret;exact⟨rfl,rfl⟩
theorem JX(rows ah:Int)(w:World)(h:¬(1≤rows∧rows≤12∧1≤ah∧ah≤40)):Calls prog 47 #[.int .i64 rows,.int .i64 ah] w fun e w'=>e= .returned (.bool false)∧w'=w:=by
 by_cases d1:1≤rows
 case neg=>
  have d1':decide (1≤rows)=false:=by simp;omega
  go_enter func47,ntmps47;go_wp2_with fail;go_ret;exact⟨rfl,rfl⟩
 by_cases d2:rows≤12
 case neg=>
  have d2':decide (rows≤12)=false:=by simp;omega
  go_enter func47,ntmps47;go_wp2_with fail;go_ret;exact⟨rfl,rfl⟩
 by_cases d3:1≤ah
 case neg=>
  have d3':decide (1≤ah)=false:=by simp;omega
  go_enter func47,ntmps47;go_wp2_with fail;go_ret;exact⟨rfl,rfl⟩
 have d4:decide (ah≤40)=false:=by simp;omega
 go_enter func47,ntmps47;go_wp2_with fail;go_ret;exact⟨rfl,rfl⟩
theorem Vd(rows ah:Int)(w:World)(h:¬(1≤rows∧rows≤12∧1≤ah∧ah≤40)):Calls prog 22 #[.int .i64 rows,.int .i64 ah] w fun e w'=>e= .returned (.tuple #[.pointer none,.int .i64 1])∧w'=w:=by have l0:=JX rows ah w h;clear h;go_enter func22,ntmps22;go_wp2_with (go_at_call 47;refine l0.mono ?_;rintro e w1 ⟨rfl,hw1⟩;have hw2:=hw1.symm;subst hw2);go_ret2;exact⟨rfl,rfl⟩
theorem Ca{o:Oper}{l:List Value}(hd:o.dst=some d)(hy:(Region.wanted o (yielded ops l.toArray)=true∧(execOp (Act.eval ⟨l.toArray,ds⟩) o).run prog w= .ok (.value v) w)∨(Region.wanted o (yielded ops l.toArray)=false∧v=undef))(h:wpList prog ops Q rest ⟨(l.set d v).toArray,ds⟩ w):wpList prog ops Q (o::rest) ⟨l.toArray,ds⟩ w:=by
 have hp:(⟨l.toArray,ds⟩:Act).put o.dst v=⟨(l.set d v).toArray,ds⟩:=by rw[hd];simp[Act.put]
 rw[←hp]at h;unfold wpList;rcases hy with⟨hw,hv⟩|⟨hw,rfl⟩
 ·rw[ak (by exact hw)];left;simp only[Oper.wp,hv,Oper.upon];exact h
 ·rw[ai (by rw[hw];decide)];exact h
theorem ac6{o:Oper}{l:List Value}{S:World→Prop}(hd:o.dst=some d)(hy:YieldsIf prog ops S o v ⟨l.toArray,ds⟩)(hS:S w)(h:wpList prog ops Q rest ⟨(l.set d v).toArray,ds⟩ w):wpList prog ops Q (o::rest) ⟨l.toArray,ds⟩ w:=
 Ca hd (hy.imp (fun k=>⟨k.1,k.2 w hS⟩) id) h
theorem AV(v0 v1:Value)(fed:ByteArray)(done:Nat)(d:DT)(i:Int)(hl:d.tb.length=40):(rP v0 v1 fed done d).set 87 (.int .i64 i)=rP v0 v1 fed done {d with ids:=i}:=by
 have h:rP v0 v1 fed done d=(([.int .i64 (d.t.rows:Int),.int .i64 (d.t.ah:Int),.string fed,.int .i64 (done:Int)]++(xM d.t++(aT v0 d.t.v0++aT v1 d.t.v1)))++d.tb.map Value.bool)++[.int .i64 d.ids]:=by simp[rP]
 have h':rP v0 v1 fed done {d with ids:=i}=(([.int .i64 (d.t.rows:Int),.int .i64 (d.t.ah:Int),.string fed,.int .i64 (done:Int)]++(xM d.t++(aT v0 d.t.v0++aT v1 d.t.v1)))++d.tb.map Value.bool)++[.int .i64 i]:=by simp[rP]
 rw[h,h',CX _ _ (by simp[xM,aB,aT,hl]),show 87-((([Value.int .i64 (d.t.rows:Int),.int .i64 (d.t.ah:Int),.string fed,.int .i64 (done:Int)]++(xM d.t++(aT v0 d.t.v0++aT v1 d.t.v1)))++d.tb.map Value.bool)).length=0 by simp[xM,aB,aT,hl]];rfl
theorem bR.VW{tb:Nat}{v0 v1:Value}{fed:ByteArray}{done:Nat}{d:DT}(h:bR w tb v0 v1 fed done d)(hl:d.tb.length=40):w.cell? ⟨tb,87,none⟩=some (.int .i64 d.ids):=by refine h.c 87 _ ?_;rw[←AV v0 v1 fed done d d.ids hl,List.getElem?_set_self (by rw[Aq hl];decide)]
theorem Hr{d:DT}(h:d.Ok):({d with t:={d.t with waits:=false,col:=0}}:DT).Ok:=by
 have hu:({d with t:={d.t with waits:=false,col:=0}}:DT).abs=d.abs.aF.bQ 0:=by
  unfold TS.bQ TS.bg;have hc:=h.inv.c1;have e2:d.abs.ah=d.t.ah:=rfl;have v:max 0 (min 0 ((d.t.ah:Int)-1))=0:=by omega
  show({d.abs with waits:=false,col:=0}:TS)= {d.abs with waits:=false,col:=max 0 (min 0 ((d.t.ah:Int)-1))};rw[v]
 refine h.Ij ?_ ?_ rfl rfl rfl rfl rfl
 ·rw[hu];exact h.inv.aF.bQ 0
 ·rw[hu];exact h.fit.aF.bQ rfl 0
theorem Qm(d:DT):d.down.ids=d.ids:=by
 unfold DT.down;split
 ·unfold DT.fI;rw[(d.sD _).2.2]
 ·split<;>rfl
theorem Ht(d:DT):d.pO.ids=d.ids:=by unfold DT.pO;rw[Qm]
theorem YD{d:DT}(h:d.Ok){i:Int}(hi:d.ids≤i):({d with ids:=i}:DT).Ok:=⟨h.inv,h.fit,h.r0.mono hi,h.r1.mono hi,Int.le_trans h.I7 hi,h.tl⟩
theorem Vi(d:DT)(i:Int)(r:bY):({d with ids:=i}:DT).put r= {d.put r with ids:=i}:=by unfold DT.put DT.setCur DT.cur;split<;>rfl
theorem Rp(d:DT)(r:bY):({d.put r with ids:=d.ids}:DT)=d.put r:=by unfold DT.put DT.setCur;split<;>rfl
theorem VE{o:Oper}{l:List Value}{u:World}{K:Act→World→Prop}(dn:Nat)(x y:Operand)(ho:o.op= .buildSlice 172 2 #[(0,x),(1,y)])(hd:o.dst=some dn)(c e:DC)(hx:Act.eval ⟨l.toArray,ds⟩ x= .agg (Dr c))(hy:Act.eval ⟨l.toArray,ds⟩ y= .agg (Dr e))(h:K ⟨(l.set dn (.slice (some ⟨u.heap.size,0,none⟩) 2 2)).toArray,ds⟩ (u.alloc (.cells (pz [c,e]).toArray 177))):Oper.wp prog o ⟨l.toArray,ds⟩ u K Q:=by
 have hr:(Instr.buildSlice 172 2 #[(0,.agg (Dr c)),(1,.agg (Dr e))]).run prog u= .ok (.slice (some ⟨u.heap.size,0,none⟩) 2 2) (u.alloc (.cells (pz [c,e]).toArray 177)):=by kernel_rfl
 have hp:(⟨l.toArray,ds⟩:Act).put o.dst (.slice (some ⟨u.heap.size,0,none⟩) 2 2)=⟨(l.set dn (.slice (some ⟨u.heap.size,0,none⟩) 2 2)).toArray,ds⟩:=by rw[hd];simp[Act.put]
 rw[←hp]at h;unfold Oper.wp execOp;have hm:(#[(0,x),(1,y)].map fun(i,x)=>(i,Act.eval ⟨l.toArray,ds⟩ x))= #[(0,.agg (Dr c)),(1,.agg (Dr e))]:=by simp[hx,hy]
 simp only[ho,hm,jV,hr,jU,mK];exact h
theorem dF.new(u:World)(r:bY)(hl:0<r.length):dF (u.alloc (.cells (pz r).toArray 177)) 0 (.slice (some ⟨u.heap.size,0,none⟩) r.length r.length) r:=by
 have g:(u.alloc (.cells (pz r).toArray 177)).heap[u.heap.size]? =some (.cells (pz r).toArray 177 (0,0)):=bV _ _;refine⟨_,_,rfl,bN _,fun j c hj=>⟨u.heap.size,0,rfl,⟨dx _,_,_,g,?_⟩,aK g,fun i v hv=>?_⟩⟩
 ·obtain⟨c0,hc0⟩:∃c0,r[0]? =some c0:=⟨_,eG hl⟩;have e1:=vO r 0 c0 hc0 1 (by omega);refine⟨c0.1.p.b,?_⟩;have e2:(tF c0)[1]? =some (.bool c0.1.p.b):=rfl;rw[e2]at e1;simpa using e1
 rw[bG _ _ _ _ _ _ g,lH];have hi:i<8:=by have:=(gJ.1 hv).1;rw[vL]at this;exact this
 have e:=vO r j c hj i hi;rw[hv]at e;simpa using e
theorem dF.acH(u:World)(c:DC):dF (u.alloc (.cells (Dr c) 177)) 0 (.slice (some ⟨u.heap.size,0,none⟩) 1 1) [c]:=by have h:=dF.new u [c] (by simp);rw[show pz [c]=tF c by simp[pz]]at h;exact h
structure WL (ops:Array Oper) (Q:Exit→Act→World→Prop) (l:List Oper) (a:Act) (w:World):Prop where
 o:wpList prog ops Q l a w
theorem dO{id:Nat}(h:WL ops Q ops.toList a w):(Code.region id ops false).wp prog Q a w:=wp_region_list h.o
theorem Mk{o:Oper}{l:List Value}(hd:o.dst=some d)(hy:(Region.wanted o (yielded ops l.toArray)=true∧(execOp (Act.eval ⟨l.toArray,ds⟩) o).run prog w= .ok (.value v) w)∨(Region.wanted o (yielded ops l.toArray)=false∧v=undef))(h:WL ops Q rest ⟨(l.set d v).toArray,ds⟩ w):WL ops Q (o::rest) ⟨l.toArray,ds⟩ w:=⟨Ca hd hy h.o⟩
theorem Sn{o:Oper}{l:List Value}{S:World→Prop}(hd:o.dst=some d)(hy:YieldsIf prog ops S o v ⟨l.toArray,ds⟩)(hS:S w)(h:WL ops Q rest ⟨(l.set d v).toArray,ds⟩ w):WL ops Q (o::rest) ⟨l.toArray,ds⟩ w:=⟨ac6 hd hy hS h.o⟩
abbrev aQ (b o:Nat):Value:=.pointer (some ⟨b,o,none⟩)
theorem au{o:Oper}{l:List Value}(v:Value)(h:WL ops Q rest ⟨(l.set d v).toArray,ds⟩ w)(hd:o.dst=some d:=by rfl)(h1:Region.wanted o (yielded ops l.toArray)=true:=by kernel_rfl)(h2:(execOp (Act.eval ⟨l.toArray,ds⟩) o).run prog w= .ok (.value v) w:=by kernel_rfl):WL ops Q (o::rest) ⟨l.toArray,ds⟩ w:=Mk hd (Or.inl ⟨h1,h2⟩) h
theorem aR{o:Oper}{l:List Value}(h:WL ops Q rest ⟨(l.set d undef).toArray,ds⟩ w)(hd:o.dst=some d:=by rfl)(h1:Region.wanted o (yielded ops l.toArray)=false:=by kernel_rfl):WL ops Q (o::rest) ⟨l.toArray,ds⟩ w:=Mk hd (Or.inr ⟨h1,rfl⟩) h
theorem WL.nil(h:Q .normal a w):WL ops Q [] a w:=⟨wpList_nil h⟩
theorem NW{o:Oper}{off:Nat}(x:Operand)(ho:o.op= .load 3 x)(hx:a.eval x= .pointer (some ⟨b,off,none⟩))(hc:w.cell? ⟨b,off,none⟩=some v):(execOp a.eval o).run prog w= .ok (.value v) w:=by unfold execOp;simp only[ho,hx];go_simp
theorem NY{o:Oper}{off:Nat}(x:Operand)(ho:o.op= .load 4 x)(hx:a.eval x= .pointer (some ⟨b,off,none⟩))(hc:w.cell? ⟨b,off,none⟩=some v):(execOp a.eval o).run prog w= .ok (.value v) w:=by unfold execOp;simp only[ho,hx];go_simp
theorem iG{o:Oper}{l:List Value}{off:Nat}(hc:w.cell? ⟨b,off,none⟩=some v)(h:WL ops Q rest ⟨(l.set d v).toArray,ds⟩ w)(hd:o.dst=some d:=by rfl)(ho:o.op= .load 3 x:=by rfl)(hx:Act.eval ⟨l.toArray,ds⟩ x= .pointer (some ⟨b,off,none⟩):=by kernel_rfl)(h1:Region.wanted o (yielded ops l.toArray)=true:=by kernel_rfl):WL ops Q (o::rest) ⟨l.toArray,ds⟩ w:=Mk hd (Or.inl ⟨h1,NW x ho hx hc⟩) h
theorem qw{o:Oper}{l:List Value}{off:Nat}(hc:w.cell? ⟨b,off,none⟩=some v)(h:WL ops Q rest ⟨(l.set d v).toArray,ds⟩ w)(hd:o.dst=some d:=by rfl)(ho:o.op= .load 4 x:=by rfl)(hx:Act.eval ⟨l.toArray,ds⟩ x= .pointer (some ⟨b,off,none⟩):=by kernel_rfl)(h1:Region.wanted o (yielded ops l.toArray)=true:=by kernel_rfl):WL ops Q (o::rest) ⟨l.toArray,ds⟩ w:=Mk hd (Or.inl ⟨h1,NY x ho hx hc⟩) h
end Go.Proofs.YtheibfffilomcaaGreatDoor
