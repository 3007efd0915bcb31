import Derived.Test.YtheibfffilomcaaGreatDoorTmaU
import Derived.Test.YtheibfffilomcaaGreatDoorVjU
set_option linter.all false
set_option maxRecDepth 100000
set_option maxHeartbeats 2000000
namespace Go.Proofs.YtheibfffilomcaaGreatDoor
open Go.RowKit Go.Proofs.Tryz
variable {d:DT} {tb done:Nat} {v0 v1:Value} {fed:ByteArray} {w:World}
theorem bR.qH(h:bR w tb v0 v1 fed done d):w.cell? ⟨tb,0,none⟩=some (.int .i64 (d.t.rows:Int)):=h.c 0 _ rfl
theorem bR.gX(h:bR w tb v0 v1 fed done d):w.cell? ⟨tb,1,none⟩=some (.int .i64 (d.t.ah:Int)):=h.c 1 _ rfl
theorem bR.LJ(h:bR w tb v0 v1 fed done d):w.cell? ⟨tb,2,none⟩=some (.string fed):=h.c 2 _ rfl
theorem bR.JA(h:bR w tb v0 v1 fed done d):w.cell? ⟨tb,3,none⟩=some (.int .i64 (done:Int)):=h.c 3 _ rfl
theorem bR.Dq(h:bR w tb v0 v1 fed done d):w.cell? ⟨tb,4,none⟩=some (.int .i64 d.t.row):=h.c 4 _ rfl
theorem bR.oz(h:bR w tb v0 v1 fed done d):w.cell? ⟨tb,5,none⟩=some (.int .i64 d.t.col):=h.c 5 _ rfl
theorem bR.LM(h:bR w tb v0 v1 fed done d):w.cell? ⟨tb,6,none⟩=some (.bool d.t.waits):=h.c 6 _ rfl
theorem bR.LK(h:bR w tb v0 v1 fed done d):w.cell? ⟨tb,12,none⟩=some (.int .i64 d.t.first):=h.c 12 _ rfl
theorem bR.Gp(h:bR w tb v0 v1 fed done d):w.cell? ⟨tb,13,none⟩=some (.int .i64 d.t.second):=h.c 13 _ rfl
theorem bR.VX(h:bR w tb v0 v1 fed done d):w.cell? ⟨tb,14,none⟩=some (.int .i64 d.t.use):=h.c 14 _ rfl
theorem bR.yf(h:bR w tb v0 v1 fed done d):w.cell? ⟨tb,15,none⟩=some (.bool d.t.origin):=h.c 15 _ rfl
theorem bR.rY(h:bR w tb v0 v1 fed done d):w.cell? ⟨tb,16,none⟩=some (.int .i64 d.t.top):=h.c 16 _ rfl
theorem bR.qG(h:bR w tb v0 v1 fed done d):w.cell? ⟨tb,17,none⟩=some (.int .i64 d.t.bottom):=h.c 17 _ rfl
theorem bR.tu(h:bR w tb v0 v1 fed done d):w.cell? ⟨tb,18,none⟩=some (.bool d.t.wrap):=h.c 18 _ rfl
theorem bR.Bf(h:bR w tb v0 v1 fed done d):w.cell? ⟨tb,19,none⟩=some (.bool d.t.insert):=h.c 19 _ rfl
theorem bR.tq(h:bR w tb v0 v1 fed done d):w.cell? ⟨tb,20,none⟩=some (.int .i64 d.t.shown):=h.c 20 _ rfl
theorem Vt(hs:d.t.shown=0)(top n:Int):d.fI top n= {d with d0:=bI d.d0 top d.t.bottom n d.t.ah}:=by unfold DT.fI DT.setCur DT.cur;rw[ak hs,ak hs]
theorem Vu(hs:d.t.shown=1)(top n:Int):d.fI top n= {d with d1:=bI d.d1 top d.t.bottom n d.t.ah}:=by unfold DT.fI DT.setCur DT.cur;rw[ai (by omega),ai (by omega)]
theorem pq(tb:Nat)(v0 v1:Value)(fed:ByteArray)(done:Nat)(d:DT)(top n:Int)(w:World)(ht:bR w tb v0 v1 fed done d)(hok:d.Ok)(h0:0≤top)(hn: -100000≤n∧n≤100000):Calls prog 135 #[.pointer (some ⟨tb,0,none⟩),.int .i64 top,.int .i64 n] w fun e w'=>e= .returned (.tuple #[])∧∃v0' v1',bR w' tb v0' v1' fed done (d.fI top n)∧Ch (· =tb) w w':=by
 have hsh:d.t.shown=0∨d.t.shown=1:=hok.inv.sh;rcases hsh with hs|hs
 ·have lS:d.d0.length=d.t.rows:=by have:=hok.inv.l0;have e:d.abs.s0=dM d.d0:=rfl;rw[e,bF]at this;exact this
  have hr2:=hok.inv.r2;have er2:d.abs.rows=d.t.rows:=rfl;have hc2:d.t.ah≤40:=hok.inv.c2;have hbt:d.t.bottom<(d.t.rows:Int):=hok.inv.bot;have htl:=hok.tl;rw[Vt hs];have HT0:bR ({w with drawn:=w.drawn+1}:World) tb v0 v1 fed done d:=ht.sm ((Ch.refl _ _).drewN 1);have qC:∀u,bR u tb v0 v1 fed done d→u.cell? ⟨tb,20,none⟩=some (.int .i64 0)∧u.cell? ⟨tb,17,none⟩=some (.int .i64 d.t.bottom)∧u.cell? ⟨tb,1,none⟩=some (.int .i64 (d.t.ah:Int)):=fun u hu=>⟨by rw[←hs];exact hu.c 20 _ rfl,hu.c 17 _ rfl,hu.c 1 _ rfl⟩;have HH:=qC _ HT0;have uF:World.rangeAt ({w with drawn:=w.drawn+1}:World) tb 21 (aT v0 d.t.v0):=HT0.sl0 hs;have lw:=yI v0 d.d0 d.t.v0 top d.t.bottom n d.t.ah ({w with drawn:=w.drawn+1}:World) HT0.h0 (by omega) h0 (by rw[lS];exact hbt) hn (by omega);go_enter func135,ntmps135;go_wp2_with fail;refine dX (S:=fun x=>x.cell? ⟨tb,20,none⟩=some (.int .i64 0)∧x.cell? ⟨tb,17,none⟩=some (.int .i64 d.t.bottom)∧x.cell? ⟨tb,1,none⟩=some (.int .i64 (d.t.ah:Int))) aX ?_;refine ay 0 1 2 3 HH ?_;simp only[ag,af];refine ay 4 5 6 7 HH ?_;simp only[ag,af];refine ay 8 9 10 11 HH ?_;simp only[ag,af];refine dW 12 13 HH ?_;refine aj 14 HH ?_ (v:=.pointer (some ⟨tb,21,none⟩));refine aj 16 HH ?_;simp only[ag,af];refine ay 17 18 19 20 HH ?_;simp only[ag,af];refine ay 21 22 23 24 HH ?_;simp only[ag,af];refine ay 25 26 28 29 HH ?_;simp only[ag,af];refine av 15 ?_;refine jl 21 (.tmp 20) rfl rfl tb 21 rfl (aT v0 d.t.v0) rfl uF ?_;refine⟨HH,?_⟩;simp only[ag,af];refine av 27 ?_;refine a_ (vs:=[.agg (aT v0 d.t.v0).toArray,.int .i64 top,.int .i64 d.t.bottom,.int .i64 n,.int .i64 (d.t.ah:Int)]) (R:=fun v w'=>∃v',v= .agg (aT v' d.t.v0).toArray∧ShR w' 0 v' (bI d.d0 top d.t.bottom n d.t.ah)∧Below w.heap.size w w') (lw.mono fun e w' h=>by obtain⟨v',h1,h2,h3⟩:=h;exact⟨_,h1,v',rfl,h2,⟨h3.os,h3.tape,h3.output,h3.size,h3.block⟩⟩) ?_;rintro v2 w1 ⟨v',rfl,hS',b1⟩;have ht1:bR w1 tb v0 v1 fed done d:=ht.sm (Ch.of_below b1);have Cy:=qC _ ht1;refine⟨Cy,?_⟩;simp only[ag,af];refine aj 30 Cy ?_ (v:=.pointer (some ⟨tb,21,none⟩));simp only[ag,af];have hv1:v'.oneCell'=true:=by obtain⟨a,c,e,_⟩:=hS';rw[e];rfl
  refine av 31 ?_;refine gN 87 (.tmp 36) (.tmp 33) rfl rfl (v0':=v') (v1':=v1) (kT:=fed) (done':=done) (d':={d with d0:=bI d.d0 top d.t.bottom n d.t.ah}) 21 (aT v' d.t.v0) jP rfl rfl (j5 hv1 _) ht1 htl (by simp[aT,aB]) rfl hS' ht1.h1 ?_;intro u2 t2 c2;have I4:u2.cell? ⟨tb,20,none⟩=some (.int .i64 0)∧u2.cell? ⟨tb,17,none⟩=some (.int .i64 d.t.bottom)∧u2.cell? ⟨tb,1,none⟩=some (.int .i64 (d.t.ah:Int)):=⟨by rw[←hs];exact t2.c 20 _ rfl,t2.c 17 _ rfl,t2.c 1 _ rfl⟩;refine⟨I4,?_⟩;refine aC ?_;have HT2:Hid _:=t2;have n_:Hid (Ch (· =tb) w u2):=(Sm.ch (Ch.of_below b1)).trans c2;clear t2 c2 b1 hS' ht1 HH Cy I4 HT0 uF lw qC;go_wp2_with fail;go_end0;exact⟨rfl,_,_,HT2.o,n_.o⟩
 ·have lS:d.d1.length=d.t.rows:=by have:=hok.inv.l1;have e:d.abs.s1=dM d.d1:=rfl;rw[e,bF]at this;exact this
  have hr2:=hok.inv.r2;have er2:d.abs.rows=d.t.rows:=rfl;have hc2:d.t.ah≤40:=hok.inv.c2;have hbt:d.t.bottom<(d.t.rows:Int):=hok.inv.bot;have htl:=hok.tl;rw[Vu hs];have HT0:bR ({w with drawn:=w.drawn+1}:World) tb v0 v1 fed done d:=ht.sm ((Ch.refl _ _).drewN 1);have qC:∀u,bR u tb v0 v1 fed done d→u.cell? ⟨tb,20,none⟩=some (.int .i64 1)∧u.cell? ⟨tb,17,none⟩=some (.int .i64 d.t.bottom)∧u.cell? ⟨tb,1,none⟩=some (.int .i64 (d.t.ah:Int)):=fun u hu=>⟨by rw[←hs];exact hu.c 20 _ rfl,hu.c 17 _ rfl,hu.c 1 _ rfl⟩;have HH:=qC _ HT0;have uF:World.rangeAt ({w with drawn:=w.drawn+1}:World) tb 34 (aT v1 d.t.v1):=HT0.sl1;have lw:=yI v1 d.d1 d.t.v1 top d.t.bottom n d.t.ah ({w with drawn:=w.drawn+1}:World) HT0.h1 (by omega) h0 (by rw[lS];exact hbt) hn (by omega);go_enter func135,ntmps135;go_wp2_with fail;refine dX (S:=fun x=>x.cell? ⟨tb,20,none⟩=some (.int .i64 1)∧x.cell? ⟨tb,17,none⟩=some (.int .i64 d.t.bottom)∧x.cell? ⟨tb,1,none⟩=some (.int .i64 (d.t.ah:Int))) aX ?_;refine ay 0 1 2 3 HH ?_;simp only[ag,af];refine ay 4 5 6 7 HH ?_;simp only[ag,af];refine ay 8 9 10 11 HH ?_;simp only[ag,af];refine dW 12 13 HH ?_;refine aj 14 HH ?_ (v:=.pointer (some ⟨tb,34,none⟩));refine aj 16 HH ?_;simp only[ag,af];refine ay 17 18 19 20 HH ?_;simp only[ag,af];refine ay 21 22 23 24 HH ?_;simp only[ag,af];refine ay 25 26 28 29 HH ?_;simp only[ag,af];refine av 15 ?_;refine jl 21 (.tmp 20) rfl rfl tb 34 rfl (aT v1 d.t.v1) rfl uF ?_;refine⟨HH,?_⟩;simp only[ag,af];refine av 27 ?_;refine a_ (vs:=[.agg (aT v1 d.t.v1).toArray,.int .i64 top,.int .i64 d.t.bottom,.int .i64 n,.int .i64 (d.t.ah:Int)]) (R:=fun v w'=>∃v',v= .agg (aT v' d.t.v1).toArray∧ShR w' 0 v' (bI d.d1 top d.t.bottom n d.t.ah)∧Below w.heap.size w w') (lw.mono fun e w' h=>by obtain⟨v',h1,h2,h3⟩:=h;exact⟨_,h1,v',rfl,h2,⟨h3.os,h3.tape,h3.output,h3.size,h3.block⟩⟩) ?_;rintro v2 w1 ⟨v',rfl,hS',b1⟩;have ht1:bR w1 tb v0 v1 fed done d:=ht.sm (Ch.of_below b1);have Cy:=qC _ ht1;refine⟨Cy,?_⟩;simp only[ag,af];refine aj 30 Cy ?_ (v:=.pointer (some ⟨tb,34,none⟩));simp only[ag,af];have hv1:v'.oneCell'=true:=by obtain⟨a,c,e,_⟩:=hS';rw[e];rfl
  refine av 31 ?_;refine gN 87 (.tmp 36) (.tmp 33) rfl rfl (v0':=v0) (v1':=v') (kT:=fed) (done':=done) (d':={d with d1:=bI d.d1 top d.t.bottom n d.t.ah}) 34 (aT v' d.t.v1) jP rfl rfl (j5 hv1 _) ht1 htl (by simp[aT,aB]) rfl ht1.h0 hS' ?_;intro u2 t2 c2;have I4:u2.cell? ⟨tb,20,none⟩=some (.int .i64 1)∧u2.cell? ⟨tb,17,none⟩=some (.int .i64 d.t.bottom)∧u2.cell? ⟨tb,1,none⟩=some (.int .i64 (d.t.ah:Int)):=⟨by rw[←hs];exact t2.c 20 _ rfl,t2.c 17 _ rfl,t2.c 1 _ rfl⟩;refine⟨I4,?_⟩;refine aC ?_;have HT2:Hid _:=t2;have n_:Hid (Ch (· =tb) w u2):=(Sm.ch (Ch.of_below b1)).trans c2;clear t2 c2 b1 hS' ht1 HH Cy I4 HT0 uF lw qC;go_wp2_with fail;go_end0;exact⟨rfl,_,_,HT2.o,n_.o⟩
theorem oI(tb:Nat)(v0 v1:Value)(fed:ByteArray)(done:Nat)(d:DT)(w:World)(ht:bR w tb v0 v1 fed done d)(hok:d.Ok):Calls prog 122 #[.pointer (some ⟨tb,0,none⟩)] w fun e w'=>e= .returned (.tuple #[])∧∃v0' v1',bR w' tb v0' v1' fed done d.down∧Ch (· =tb) w w':=by
 have c4:=ht.Dq;have ce:=ht.qG;have c16:=ht.rY;have c0:=ht.qH;have f4:=ht.f 4;have hr0:0≤d.t.row:=hok.inv.row0;have hr1:d.t.row<(d.t.rows:Int):=hok.inv.jK;have hr2:d.t.rows≤12:=hok.inv.r2;have ht0:0≤d.t.top:=hok.inv.iO;have v1':IntKind.i64.wrap ((d.t.rows:Int)-1)=(d.t.rows:Int)-1:=bD _ (by omega);have v2':IntKind.i64.wrap (d.t.row+1)=d.t.row+1:=bD _ (by omega);have HT:Hid _:=ht;unfold DT.down;by_cases h1:d.t.row=d.t.bottom
 ·rw[ak h1];have b1:(d.t.row==d.t.bottom)=true:=by simp[h1]
  have iV:Hid _:=hok;rw[h1]at c4;clear ht hok f4 v2' v1' hr0 hr1 hr2;go_enter func122,ntmps122;go_wp2_with fail;go_quiet (fail);go_wp2_with fail;refine(pq tb v0 v1 fed done d d.t.top 1 _ (HT.o.drewN _) iV.o ht0 (by omega)).mono ?_;rintro e w2 ⟨rfl,v0',v1',t2,k2⟩;go_wp2_with fail;go_end0;exact⟨rfl,v0',v1',t2,((Ch.refl _ _).drewN _).trans k2⟩
 ·rw[ai h1];have b1:(d.t.row==d.t.bottom)=false:=by simp[h1]
  have b1':decide (d.t.row=d.t.bottom)=false:=by simp[h1]
  by_cases h2:d.t.row<(d.t.rows:Int)-1
  ·rw[ak h2];clear ht hok;go_enter func122,ntmps122;go_wp2_with fail;go_quiet (fail);go_wp2_with fail;go_quiet (fail);go_wp2_with fail;go_end0;exact⟨rfl,v0,v1,(((HT.o.drewN _))).set1 4 _ rfl rfl rfl,(((Ch.refl _ _).drewN _)).aa3 _ _⟩
  ·rw[ai h2];have b2:decide (d.t.row<(d.t.rows:Int)-1)=false:=by simp;omega
   clear ht hok;go_enter func122,ntmps122;go_wp2_with fail;go_quiet (fail);go_wp2_with fail;go_quiet (fail);go_wp2_with fail;go_end0;exact⟨rfl,v0,v1,((HT.o.drewN _)).drewN _,((Ch.refl _ _).drewN _).drewN _⟩
theorem UG(tb:Nat)(v0 v1:Value)(fed:ByteArray)(done:Nat)(d:DT)(w:World)(ht:bR w tb v0 v1 fed done d)(hok:d.Ok):Calls prog 128 #[.pointer (some ⟨tb,0,none⟩)] w fun e w'=>e= .returned (.tuple #[])∧∃v0' v1',bR w' tb v0' v1' fed done d.up∧Ch (· =tb) w w':=by
 have c4:=ht.Dq;have ce:=ht.rY;have c16:=ht.rY;have c0:=ht.qH;have f4:=ht.f 4;have hr0:0≤d.t.row:=hok.inv.row0;have hr1:d.t.row<(d.t.rows:Int):=hok.inv.jK;have hr2:d.t.rows≤12:=hok.inv.r2;have ht0:0≤d.t.top:=hok.inv.iO;have v1':IntKind.i64.wrap ((d.t.rows:Int)-1)=(d.t.rows:Int)-1:=bD _ (by omega);have v2':IntKind.i64.wrap (d.t.row-1)=d.t.row-1:=bD _ (by omega);have HT:Hid _:=ht;unfold DT.up;by_cases h1:d.t.row=d.t.top
 ·rw[ak h1];have b1:(d.t.row==d.t.top)=true:=by simp[h1]
  have iV:Hid _:=hok;rw[h1]at c4;clear ht hok f4 v2' v1' hr0 hr1 hr2;go_enter func128,ntmps128;go_wp2_with fail;go_quiet (fail);go_wp2_with fail;refine(pq tb v0 v1 fed done d d.t.top (-1) _ (HT.o.drewN _) iV.o ht0 (by omega)).mono ?_;rintro e w2 ⟨rfl,v0',v1',t2,k2⟩;go_wp2_with fail;go_end0;exact⟨rfl,v0',v1',t2,((Ch.refl _ _).drewN _).trans k2⟩
 ·rw[ai h1];have b1:(d.t.row==d.t.top)=false:=by simp[h1]
  have b1':decide (d.t.row=d.t.top)=false:=by simp[h1]
  by_cases h2:0<d.t.row
  ·rw[ak h2];clear ht hok;go_enter func128,ntmps128;go_wp2_with fail;go_quiet (fail);go_wp2_with fail;skip;skip;go_end0;exact⟨rfl,v0,v1,(((HT.o.drewN _))).set1 4 _ rfl rfl rfl,(((Ch.refl _ _).drewN _)).aa3 _ _⟩
  ·rw[ai h2];have b2:decide (0<d.t.row)=false:=by simp;omega
   clear ht hok;go_enter func128,ntmps128;go_wp2_with fail;go_quiet (fail);go_wp2_with fail;skip;skip;go_end0;exact⟨rfl,v0,v1,((HT.o.drewN _)),((Ch.refl _ _).drewN _)⟩
theorem Hg{c:Int}(h:∀x∈([106,107,108,109,110,113,116,117,118,119,120]:List Int),x≠c):TS.mY c=c:=by unfold TS.mY;rw[ai (fun e=>h 106 (by simp) e.symm)];rw[ai (fun e=>h 107 (by simp) e.symm)];rw[ai (fun e=>h 108 (by simp) e.symm)];rw[ai (fun e=>h 109 (by simp) e.symm)];rw[ai (fun e=>h 110 (by simp) e.symm)];rw[ai (fun e=>h 113 (by simp) e.symm)];rw[ai (fun e=>h 116 (by simp) e.symm)];rw[ai (fun e=>h 117 (by simp) e.symm)];rw[ai (fun e=>h 118 (by simp) e.symm)];rw[ai (fun e=>h 119 (by simp) e.symm)];rw[ai (fun e=>h 120 (by simp) e.symm)]
theorem Dt(c:Int)(w:World):Calls prog 121 #[.int .i64 c] w fun e w'=>e= .returned (.int .i64 (TS.mY c))∧Sm w w':=by
 obtain⟨W,hW⟩:∃W,W=w.alloc (.cells #[.int .i64 9496,.int .i64 9488,.int .i64 9484,.int .i64 9492,.int .i64 9532,.int .i64 9472,.int .i64 9500,.int .i64 9508,.int .i64 9524,.int .i64 9516,.int .i64 9474] 3):=⟨_,rfl⟩;have GW:W.heap[w.heap.size]? =some (.cells #[.int .i64 9496,.int .i64 9488,.int .i64 9484,.int .i64 9492,.int .i64 9532,.int .i64 9472,.int .i64 9500,.int .i64 9508,.int .i64 9524,.int .i64 9516,.int .i64 9474] 3 (0,0)):=by rw[hW];exact bV _ _
 have SW:Sm w W:=by rw[hW];exact(Ch.refl _ _).alloc _
 have HW:Hid _:=hW;have F9:Hid _:=GW;have Cs:Hid _:=SW;clear hW GW SW;go_enter func121,ntmps121;go_wp2_with fail;rw[←HW.o];go_loopw [5] (fun i wr=>∃k:Nat,k≤11∧i= .int .i64 k∧wr=W∧∀j,j<k→([106,107,108,109,110,113,116,117,118,119,120]:List Int).getD j 0≠c) (fun i _=>11-(intOf i).toNat)
 case atStart=>exact⟨0,by omega,rfl,rfl,fun j hj=>by omega⟩
 case round=>
  obtain⟨k,hk,rfl,rfl,hm⟩:=hrel;have HM:Hid _:=hm;clear hm;rcases(show k=0∨k=1∨k=2∨k=3∨k=4∨k=5∨k=6∨k=7∨k=8∨k=9∨k=10∨k=11 by omega)with rfl|rfl|rfl|rfl|rfl|rfl|rfl|rfl|rfl|rfl|rfl|rfl
  ·have hv:wrap64 ((({data:=#[106,107,108,109,110,113,116,117,118,119,120]}:ByteArray)[(0:Nat)]'(by decide)).toNat:Int)=106:=by kernel_rfl
   have ct:wr.cell? ⟨w.heap.size,0,none⟩=some (.int .i64 9496):=(bG _ _ _ _ _ _ F9.o).trans rfl;by_cases hc:(106:Int)=c
   ·subst hc;go_wp2_with fail;go_ret;exact⟨rfl,Cs.o⟩
   ·have bc:((106:Int)==c)=false:=by simp[hc]
    have bc':decide ((106:Int)=c)=false:=by simp[hc]
    clear ct;go_wp2_with fail;go_roundw
    case rel=>exact⟨1,by omega,by go_num,trivial,fun j hj=>by
     by_cases e:j=0
     ·subst e;exact hc
     ·exact HM.o j (by omega)⟩
    case measure=>simp[intOf]
  ·have hv:wrap64 ((({data:=#[106,107,108,109,110,113,116,117,118,119,120]}:ByteArray)[(1:Nat)]'(by decide)).toNat:Int)=107:=by kernel_rfl
   have ct:wr.cell? ⟨w.heap.size,1,none⟩=some (.int .i64 9488):=(bG _ _ _ _ _ _ F9.o).trans rfl;by_cases hc:(107:Int)=c
   ·subst hc;go_wp2_with fail;go_ret;exact⟨rfl,Cs.o⟩
   ·have bc:((107:Int)==c)=false:=by simp[hc]
    have bc':decide ((107:Int)=c)=false:=by simp[hc]
    clear ct;go_wp2_with fail;go_roundw
    case rel=>exact⟨2,by omega,by go_num,trivial,fun j hj=>by
     by_cases e:j=1
     ·subst e;exact hc
     ·exact HM.o j (by omega)⟩
    case measure=>simp[intOf]
  ·have hv:wrap64 ((({data:=#[106,107,108,109,110,113,116,117,118,119,120]}:ByteArray)[(2:Nat)]'(by decide)).toNat:Int)=108:=by kernel_rfl
   have ct:wr.cell? ⟨w.heap.size,2,none⟩=some (.int .i64 9484):=(bG _ _ _ _ _ _ F9.o).trans rfl;by_cases hc:(108:Int)=c
   ·subst hc;go_wp2_with fail;go_ret;exact⟨rfl,Cs.o⟩
   ·have bc:((108:Int)==c)=false:=by simp[hc]
    have bc':decide ((108:Int)=c)=false:=by simp[hc]
    clear ct;go_wp2_with fail;go_roundw
    case rel=>exact⟨3,by omega,by go_num,trivial,fun j hj=>by
     by_cases e:j=2
     ·subst e;exact hc
     ·exact HM.o j (by omega)⟩
    case measure=>simp[intOf]
  ·have hv:wrap64 ((({data:=#[106,107,108,109,110,113,116,117,118,119,120]}:ByteArray)[(3:Nat)]'(by decide)).toNat:Int)=109:=by kernel_rfl
   have ct:wr.cell? ⟨w.heap.size,3,none⟩=some (.int .i64 9492):=(bG _ _ _ _ _ _ F9.o).trans rfl;by_cases hc:(109:Int)=c
   ·subst hc;go_wp2_with fail;go_ret;exact⟨rfl,Cs.o⟩
   ·have bc:((109:Int)==c)=false:=by simp[hc]
    have bc':decide ((109:Int)=c)=false:=by simp[hc]
    clear ct;go_wp2_with fail;go_roundw
    case rel=>exact⟨4,by omega,by go_num,trivial,fun j hj=>by
     by_cases e:j=3
     ·subst e;exact hc
     ·exact HM.o j (by omega)⟩
    case measure=>simp[intOf]
  ·have hv:wrap64 ((({data:=#[106,107,108,109,110,113,116,117,118,119,120]}:ByteArray)[(4:Nat)]'(by decide)).toNat:Int)=110:=by kernel_rfl
   have ct:wr.cell? ⟨w.heap.size,4,none⟩=some (.int .i64 9532):=(bG _ _ _ _ _ _ F9.o).trans rfl;by_cases hc:(110:Int)=c
   ·subst hc;go_wp2_with fail;go_ret;exact⟨rfl,Cs.o⟩
   ·have bc:((110:Int)==c)=false:=by simp[hc]
    have bc':decide ((110:Int)=c)=false:=by simp[hc]
    clear ct;go_wp2_with fail;go_roundw
    case rel=>exact⟨5,by omega,by go_num,trivial,fun j hj=>by
     by_cases e:j=4
     ·subst e;exact hc
     ·exact HM.o j (by omega)⟩
    case measure=>simp[intOf]
  ·have hv:wrap64 ((({data:=#[106,107,108,109,110,113,116,117,118,119,120]}:ByteArray)[(5:Nat)]'(by decide)).toNat:Int)=113:=by kernel_rfl
   have ct:wr.cell? ⟨w.heap.size,5,none⟩=some (.int .i64 9472):=(bG _ _ _ _ _ _ F9.o).trans rfl;by_cases hc:(113:Int)=c
   ·subst hc;go_wp2_with fail;go_ret;exact⟨rfl,Cs.o⟩
   ·have bc:((113:Int)==c)=false:=by simp[hc]
    have bc':decide ((113:Int)=c)=false:=by simp[hc]
    clear ct;go_wp2_with fail;go_roundw
    case rel=>exact⟨6,by omega,by go_num,trivial,fun j hj=>by
     by_cases e:j=5
     ·subst e;exact hc
     ·exact HM.o j (by omega)⟩
    case measure=>simp[intOf]
  ·have hv:wrap64 ((({data:=#[106,107,108,109,110,113,116,117,118,119,120]}:ByteArray)[(6:Nat)]'(by decide)).toNat:Int)=116:=by kernel_rfl
   have ct:wr.cell? ⟨w.heap.size,6,none⟩=some (.int .i64 9500):=(bG _ _ _ _ _ _ F9.o).trans rfl;by_cases hc:(116:Int)=c
   ·subst hc;go_wp2_with fail;go_ret;exact⟨rfl,Cs.o⟩
   ·have bc:((116:Int)==c)=false:=by simp[hc]
    have bc':decide ((116:Int)=c)=false:=by simp[hc]
    clear ct;go_wp2_with fail;go_roundw
    case rel=>exact⟨7,by omega,by go_num,trivial,fun j hj=>by
     by_cases e:j=6
     ·subst e;exact hc
     ·exact HM.o j (by omega)⟩
    case measure=>simp[intOf]
  ·have hv:wrap64 ((({data:=#[106,107,108,109,110,113,116,117,118,119,120]}:ByteArray)[(7:Nat)]'(by decide)).toNat:Int)=117:=by kernel_rfl
   have ct:wr.cell? ⟨w.heap.size,7,none⟩=some (.int .i64 9508):=(bG _ _ _ _ _ _ F9.o).trans rfl;by_cases hc:(117:Int)=c
   ·subst hc;go_wp2_with fail;go_ret;exact⟨rfl,Cs.o⟩
   ·have bc:((117:Int)==c)=false:=by simp[hc]
    have bc':decide ((117:Int)=c)=false:=by simp[hc]
    clear ct;go_wp2_with fail;go_roundw
    case rel=>exact⟨8,by omega,by go_num,trivial,fun j hj=>by
     by_cases e:j=7
     ·subst e;exact hc
     ·exact HM.o j (by omega)⟩
    case measure=>simp[intOf]
  ·have hv:wrap64 ((({data:=#[106,107,108,109,110,113,116,117,118,119,120]}:ByteArray)[(8:Nat)]'(by decide)).toNat:Int)=118:=by kernel_rfl
   have ct:wr.cell? ⟨w.heap.size,8,none⟩=some (.int .i64 9524):=(bG _ _ _ _ _ _ F9.o).trans rfl;by_cases hc:(118:Int)=c
   ·subst hc;go_wp2_with fail;go_ret;exact⟨rfl,Cs.o⟩
   ·have bc:((118:Int)==c)=false:=by simp[hc]
    have bc':decide ((118:Int)=c)=false:=by simp[hc]
    clear ct;go_wp2_with fail;go_roundw
    case rel=>exact⟨9,by omega,by go_num,trivial,fun j hj=>by
     by_cases e:j=8
     ·subst e;exact hc
     ·exact HM.o j (by omega)⟩
    case measure=>simp[intOf]
  ·have hv:wrap64 ((({data:=#[106,107,108,109,110,113,116,117,118,119,120]}:ByteArray)[(9:Nat)]'(by decide)).toNat:Int)=119:=by kernel_rfl
   have ct:wr.cell? ⟨w.heap.size,9,none⟩=some (.int .i64 9516):=(bG _ _ _ _ _ _ F9.o).trans rfl;by_cases hc:(119:Int)=c
   ·subst hc;go_wp2_with fail;go_ret;exact⟨rfl,Cs.o⟩
   ·have bc:((119:Int)==c)=false:=by simp[hc]
    have bc':decide ((119:Int)=c)=false:=by simp[hc]
    clear ct;go_wp2_with fail;go_roundw
    case rel=>exact⟨10,by omega,by go_num,trivial,fun j hj=>by
     by_cases e:j=9
     ·subst e;exact hc
     ·exact HM.o j (by omega)⟩
    case measure=>simp[intOf]
  ·have hv:wrap64 ((({data:=#[106,107,108,109,110,113,116,117,118,119,120]}:ByteArray)[(10:Nat)]'(by decide)).toNat:Int)=120:=by kernel_rfl
   have ct:wr.cell? ⟨w.heap.size,10,none⟩=some (.int .i64 9474):=(bG _ _ _ _ _ _ F9.o).trans rfl;by_cases hc:(120:Int)=c
   ·subst hc;go_wp2_with fail;go_ret;exact⟨rfl,Cs.o⟩
   ·have bc:((120:Int)==c)=false:=by simp[hc]
    have bc':decide ((120:Int)=c)=false:=by simp[hc]
    clear ct;go_wp2_with fail;go_roundw
    case rel=>exact⟨11,by omega,by go_num,trivial,fun j hj=>by
     by_cases e:j=10
     ·subst e;exact hc
     ·exact HM.o j (by omega)⟩
    case measure=>simp[intOf]
  ·go_wp2_with fail;go_ret
   have hl:TS.mY c=c:=Hg (fun x hx=>by
    simp only[kK,pX,pY]at hx;rcases hx with rfl|rfl|rfl|rfl|rfl|rfl|rfl|rfl|rfl|rfl|rfl
    ·exact HM.o 0 (by omega)
    ·exact HM.o 1 (by omega)
    ·exact HM.o 2 (by omega)
    ·exact HM.o 3 (by omega)
    ·exact HM.o 4 (by omega)
    ·exact HM.o 5 (by omega)
    ·exact HM.o 6 (by omega)
    ·exact HM.o 7 (by omega)
    ·exact HM.o 8 (by omega)
    ·exact HM.o 9 (by omega)
    ·exact HM.o 10 (by omega))
   rw[hl];exact⟨rfl,Cs.o⟩
theorem aS{ops:Array Oper}{rest:List Oper}{o:Oper}{a:Act}{u:World}{Q:Exit→Act→World→Prop}(hgd:o.guard=none)(ty:TypeId)(hsz:(prog.info? ty).map (·.size)=some 1)(x y:Operand)(ho:o.op= .store ty x y)(hd:o.dst=none)(d':DT)(j:Nat)(v:Value)(hx:a.eval x= .pointer (some ⟨tb,j,none⟩))(hy:a.eval y=v)(hv:v.cells= #[v])(h1:v.oneCell'=true)(ht:bR u tb v0 v1 fed done d)(htl:d.tb.length=40)(hj:j<88)(hL:(rP v0 v1 fed done d).set j v=rP v0 v1 fed done d')(e0:d'.d0=d.d0)(e1:d'.d1=d.d1)(h:∀u',bR u' tb v0 v1 fed done d'→Ch (· =tb) u u'→wpList prog ops Q rest a u'):wpList prog ops Q (o::rest) a u:=
 oq hgd fun _ hK=>sN ty hsz x y ho hd j v hx hy hv h1 ht htl hj hL (e0▸ht.h0) (e1▸ht.h1) (fun u' t c=>hK _ _ (h u' t c))
theorem dL:(prog.info? 3).map (·.size)=some 1:=by kernel_rfl
theorem dZ:(prog.info? 4).map (·.size)=some 1:=by kernel_rfl
theorem ac7(ho:d.t.origin=true)(r c:Int):d.to r c= {d with t:={d.t with col:=DT.wi c 0 ((d.t.ah:Int)-1),row:=DT.wi (d.t.top+r) d.t.top d.t.bottom,waits:=false}}:=by show({d with t:={d.t with col:=DT.wi c 0 ((d.t.ah:Int)-1),row:=if d.t.origin=true then DT.wi (d.t.top+r) d.t.top d.t.bottom else DT.wi r 0 ((d.t.rows:Int)-1),waits:=false}}:DT)=_;rw[ak ho]
theorem Y2(ho:d.t.origin=false)(r c:Int):d.to r c= {d with t:={d.t with col:=DT.wi c 0 ((d.t.ah:Int)-1),row:=DT.wi r 0 ((d.t.rows:Int)-1),waits:=false}}:=by show({d with t:={d.t with col:=DT.wi c 0 ((d.t.ah:Int)-1),row:=if d.t.origin=true then DT.wi (d.t.top+r) d.t.top d.t.bottom else DT.wi r 0 ((d.t.rows:Int)-1),waits:=false}}:DT)=_;rw[ai (by rw[ho];decide)]
theorem EM(tb:Nat)(v0 v1:Value)(fed:ByteArray)(done:Nat)(d:DT)(r c:Int)(w:World)(ht:bR w tb v0 v1 fed done d)(htl:d.tb.length=40)(hc2:d.t.ah≤40)(hr2:d.t.rows≤12)(ht0:0≤d.t.top)(htb:d.t.top≤d.t.bottom)(hb2:d.t.bottom<(d.t.rows:Int))(hr: -100000≤r∧r≤100000):Calls prog 139 #[.pointer (some ⟨tb,0,none⟩),.int .i64 r,.int .i64 c] w fun e w'=>e= .returned (.tuple #[])∧bR w' tb v0 v1 fed done (d.to r c)∧Ch (· =tb) w w':=by
 have c1:=ht.gX;have va:IntKind.i64.wrap ((d.t.ah:Int)-1)=(d.t.ah:Int)-1:=bD _ (by omega);have vb:IntKind.i64.wrap ((d.t.rows:Int)-1)=(d.t.rows:Int)-1:=bD _ (by omega);have vc:IntKind.i64.wrap (d.t.top+r)=d.t.top+r:=bD _ (by omega);have HT:Hid _:=ht;clear ht;go_enter func139,ntmps139;go_wp2_with (first|(go_at_call 127;refine(dh _ _ _ _).mono ?_;rintro e w1 ⟨rfl,hw1⟩;have hw2:=hw1.symm;subst hw2)|(refine aS rfl 3 dL (.tmp 17) (.tmp 13) rfl rfl {d with t:={d.t with col:=DT.wi c 0 ((d.t.ah:Int)-1)}} 5 _ rfl rfl rfl rfl HT.o htl (by decide) rfl rfl rfl ?_));intro u1 t1 k1;have c15:u1.cell? ⟨tb,15,none⟩=some (.bool d.t.origin):=t1.yf;have HT1:Hid _:=t1;have kR:Hid _:=k1;have c0:u1.cell? ⟨tb,0,none⟩=some (.int .i64 (d.t.rows:Int)):=t1.qH;clear t1 k1 c1 HT;by_cases ho:d.t.origin=true
 ·rw[ho]at c15;have HO:Hid _:=ho;clear ho;go_wp2_with fail;have HT0:bR ({u1 with drawn:=u1.drawn+1}:World) tb v0 v1 fed done {d with t:={d.t with col:=DT.wi c 0 ((d.t.ah:Int)-1)}}:=HT1.o.sm ((Ch.refl _ _).drewN 1);have qC:∀u (e:DT),e.t.top=d.t.top→e.t.bottom=d.t.bottom→bR u tb v0 v1 fed done e→u.cell? ⟨tb,16,none⟩=some (.int .i64 d.t.top)∧u.cell? ⟨tb,17,none⟩=some (.int .i64 d.t.bottom):=fun u e e1 e2 hu=>⟨by rw[←e1];exact hu.rY,by rw[←e2];exact hu.qG⟩;have HH:=qC _ ({d with t:={d.t with col:=DT.wi c 0 ((d.t.ah:Int)-1)}}:DT) rfl rfl HT0;refine dX (S:=fun x=>x.cell? ⟨tb,16,none⟩=some (.int .i64 d.t.top)∧x.cell? ⟨tb,17,none⟩=some (.int .i64 d.t.bottom)) aX ?_;refine ay 0 1 2 3 HH ?_;simp only[ag,af];refine dH 4 5 6 HH ?_;refine aj 7 HH ?_ (v:=.int .i64 (d.t.top+r));simp only[ag,af];refine ay 8 9 10 11 HH ?_;simp only[ag,af];refine ay 12 13 14 15 HH ?_;simp only[ag,af];refine dW 16 17 HH ?_;simp only[ag,af];refine av 18 ?_;refine dN (vs:=[.int .i64 (d.t.top+r),.int .i64 d.t.top,.int .i64 d.t.bottom]) (dh _ _ _ _) ?_;rintro v2 w9 ⟨rfl,rfl⟩;refine⟨HH,?_⟩;simp only[ag,af];refine ay 19 20 21 22 HH ?_;simp only[ag,af];refine av 23 ?_;refine sN 3 dL (.tmp 46) (.tmp 42) rfl rfl (d':={d with t:={d.t with col:=DT.wi c 0 ((d.t.ah:Int)-1),row:=DT.wi (d.t.top+r) d.t.top d.t.bottom}}) 4 (.int .i64 (DT.wi (d.t.top+r) d.t.top d.t.bottom)) rfl rfl rfl rfl HT0 htl (by decide) rfl HT0.h0 HT0.h1 ?_;intro u2 t2 k2;refine⟨qC _ ({d with t:={d.t with col:=DT.wi c 0 ((d.t.ah:Int)-1),row:=DT.wi (d.t.top+r) d.t.top d.t.bottom}}:DT) rfl rfl t2,?_⟩;refine aC ?_;have HT2:Hid _:=t2;have mD:Hid (Ch (· =tb) w u2):=(kR.o.drewN 1).trans k2;clear t2 k2 HH qC HT0;go_wp2_with (refine aS rfl 4 dZ (.tmp 63) _ rfl rfl {{d with t:={d.t with col:=DT.wi c 0 ((d.t.ah:Int)-1),row:=DT.wi (d.t.top+r) d.t.top d.t.bottom}} with t:={({d with t:={d.t with col:=DT.wi c 0 ((d.t.ah:Int)-1),row:=DT.wi (d.t.top+r) d.t.top d.t.bottom}}:DT).t with waits:=false}} 6 (.bool false) rfl rfl rfl rfl HT2.o htl (by decide) rfl rfl rfl ?_);intro u3 t3 k3;go_wp2_with fail;go_end0;refine⟨rfl,?_,mD.o.trans k3⟩;rw[ac7 HO.o];exact t3
 ·have hof:d.t.origin=false:=by simpa using ho
  rw[hof]at c15;have HOF:Hid _:=hof;clear hof ho;go_wp2_with (first|(go_at_call 127;refine(dh _ _ _ _).mono ?_;rintro e w1 ⟨rfl,hw1⟩;have hw2:=hw1.symm;subst hw2)|(refine aS rfl 3 dL (.tmp 58) (.tmp 54) rfl rfl {d with t:={d.t with col:=DT.wi c 0 ((d.t.ah:Int)-1),row:=DT.wi r 0 ((d.t.rows:Int)-1)}} 4 _ rfl rfl rfl rfl HT1.o htl (by decide) rfl rfl rfl ?_));intro u2 t2 k2;have HT2:Hid _:=t2;have mD:Hid (Ch (· =tb) w u2):=kR.o.trans k2;clear t2 k2;go_wp2_with (refine aS rfl 4 dZ (.tmp 63) _ rfl rfl {{d with t:={d.t with col:=DT.wi c 0 ((d.t.ah:Int)-1),row:=DT.wi r 0 ((d.t.rows:Int)-1)}} with t:={({d with t:={d.t with col:=DT.wi c 0 ((d.t.ah:Int)-1),row:=DT.wi r 0 ((d.t.rows:Int)-1)}}:DT).t with waits:=false}} 6 (.bool false) rfl rfl rfl rfl HT2.o htl (by decide) rfl rfl rfl ?_);intro u3 t3 k3;go_wp2_with fail;go_end0;refine⟨rfl,?_,mD.o.trans k3⟩;rw[Y2 HOF.o];exact t3
end Go.Proofs.YtheibfffilomcaaGreatDoor
