import Derived.Test.YtheibfffilomcaaGreatDoorTmaU
import Derived.Test.YtheibfffilomcaaGreatDoorVqU
import Derived.Test.YtheibfffilomcaaGreatDoorGaU
import Derived.Test.YtheibfffilomcaaGreatDoorUbU
import Derived.Deep.DeepCutAuto
set_option linter.all false
set_option maxRecDepth 100000
set_option maxHeartbeats 4000000
namespace Go.Proofs.YtheibfffilomcaaGreatDoor
open Go.RowKit Go.Proofs.Tryz
theorem M7(tb:Nat)(v0 v1:Value)(fed:ByteArray)(done:Nat)(d:DT)(w:World)(ht:bR w tb v0 v1 fed done d)(hok:d.Ok):Calls prog 63 #[.pointer (some ⟨tb,0,none⟩),.int .i64 0,.int .i64 55] w fun e w'=>e= .returned (.tuple #[])∧∃v0' v1',bR w' tb v0' v1' fed done (d.escape 0 55)∧Ch (· =tb) w w':=by
 have htl:=hok.tl;have hsh:d.t.shown=0∨d.t.shown=1:=hok.inv.sh;have HT:Hid _:=ht;clear ht hok;rcases hsh with hs|hs
 ·have hX:d.escape 0 55= {d with t:={d.t with v0:=d.t.spot}}:=by show d.sc TS.save=_;unfold DT.sc TS.save;rw[ak hs]
  rw[hX];have HS:Hid _:=hs;clear hX hs;go_enter func63,ntmps63;go_wp2_with fail;have HT0:bR ({w with drawn:=w.drawn+1}:World) tb v0 v1 fed done d:=HT.o.sm ((Ch.refl _ _).drewN 1);have qC:∀u (e:DT),e.t.shown=d.t.shown→e.t.spot=d.t.spot→bR u tb v0 v1 fed done e→u.cell? ⟨tb,20,none⟩=some (.int .i64 0)∧u.rangeAt tb 4 (aB d.t.spot):=fun u e e1 e2 hu=>⟨by rw[←HS.o, ←e1];exact hu.tq,by rw[←e2];exact hu.range 4 _ rfl⟩;have HH:=qC _ d rfl rfl HT0;refine dX (S:=fun x=>x.cell? ⟨tb,20,none⟩=some (.int .i64 0)∧x.rangeAt tb 4 (aB d.t.spot)) aX ?_;refine ay 0 1 2 3 HH ?_;simp only[ag,af];refine ay 4 5 6 7 HH ?_;simp only[ag,af];refine dW 8 9 HH ?_;simp only[ag,af];refine aj 10 HH ?_ (v:=.agg (aB d.t.spot).toArray) (hy:=(kz (by rfl) 82 (.tmp 54) rfl tb 4 rfl (aB d.t.spot) _ (fun x h=>h.2) underlying82 rfl bH));refine dW 11 12 HH ?_;refine aj 13 HH ?_ (v:=.pointer (some ⟨tb,21,none⟩));simp only[ag,af];refine aj 14 HH ?_;simp only[ag,af];refine av 15 ?_;refine gN 82 (.tmp 59) (.tmp 55) rfl rfl (v0':=v0) (v1':=v1) (kT:=fed) (done':=done) (d':={d with t:={d.t with v0:=d.t.spot}}) 22 (aB d.t.spot) bH rfl rfl (iM _) HT0 htl (by simp[aB]) rfl HT0.h0 HT0.h1 ?_;intro u2 t2 c2;refine⟨qC _ ({d with t:={d.t with v0:=d.t.spot}}:DT) rfl rfl t2,?_⟩;refine aC ?_;have HT2:Hid _:=t2;have mD:Hid (Ch (· =tb) w u2):=((Ch.refl _ _).drewN 1).trans c2;clear t2 c2 HH qC HT0;go_wp2_with fail;go_end0
  first|exact⟨rfl,v0,v1,HT2.o,mD.o⟩|exact⟨rfl,⟨v0,v1,HT2.o⟩,mD.o⟩
 ·have hX:d.escape 0 55= {d with t:={d.t with v1:=d.t.spot}}:=by show d.sc TS.save=_;unfold DT.sc TS.save;rw[ai (by omega)]
  rw[hX];have HS:Hid _:=hs;clear hX hs;go_enter func63,ntmps63;go_wp2_with fail;have HT0:bR ({w with drawn:=w.drawn+1}:World) tb v0 v1 fed done d:=HT.o.sm ((Ch.refl _ _).drewN 1);have qC:∀u (e:DT),e.t.shown=d.t.shown→e.t.spot=d.t.spot→bR u tb v0 v1 fed done e→u.cell? ⟨tb,20,none⟩=some (.int .i64 1)∧u.rangeAt tb 4 (aB d.t.spot):=fun u e e1 e2 hu=>⟨by rw[←HS.o, ←e1];exact hu.tq,by rw[←e2];exact hu.range 4 _ rfl⟩;have HH:=qC _ d rfl rfl HT0;refine dX (S:=fun x=>x.cell? ⟨tb,20,none⟩=some (.int .i64 1)∧x.rangeAt tb 4 (aB d.t.spot)) aX ?_;refine ay 0 1 2 3 HH ?_;simp only[ag,af];refine ay 4 5 6 7 HH ?_;simp only[ag,af];refine dW 8 9 HH ?_;simp only[ag,af];refine aj 10 HH ?_ (v:=.agg (aB d.t.spot).toArray) (hy:=(kz (by rfl) 82 (.tmp 54) rfl tb 4 rfl (aB d.t.spot) _ (fun x h=>h.2) underlying82 rfl bH));refine dW 11 12 HH ?_;refine aj 13 HH ?_ (v:=.pointer (some ⟨tb,34,none⟩));simp only[ag,af];refine aj 14 HH ?_;simp only[ag,af];refine av 15 ?_;refine gN 82 (.tmp 59) (.tmp 55) rfl rfl (v0':=v0) (v1':=v1) (kT:=fed) (done':=done) (d':={d with t:={d.t with v1:=d.t.spot}}) 35 (aB d.t.spot) bH rfl rfl (iM _) HT0 htl (by simp[aB]) rfl HT0.h0 HT0.h1 ?_;intro u2 t2 c2;refine⟨qC _ ({d with t:={d.t with v1:=d.t.spot}}:DT) rfl rfl t2,?_⟩;refine aC ?_;have HT2:Hid _:=t2;have mD:Hid (Ch (· =tb) w u2):=((Ch.refl _ _).drewN 1).trans c2;clear t2 c2 HH qC HT0;go_wp2_with fail;go_end0
  first|exact⟨rfl,v0,v1,HT2.o,mD.o⟩|exact⟨rfl,⟨v0,v1,HT2.o⟩,mD.o⟩
theorem EL(tb:Nat)(v0 v1:Value)(fed:ByteArray)(done:Nat)(d:DT)(w:World)(ht:bR w tb v0 v1 fed done d)(hok:d.Ok):Calls prog 63 #[.pointer (some ⟨tb,0,none⟩),.int .i64 0,.int .i64 56] w fun e w'=>e= .returned (.tuple #[])∧∃v0' v1',bR w' tb v0' v1' fed done (d.escape 0 56)∧Ch (· =tb) w w':=by
 have htl:=hok.tl;have hsh:d.t.shown=0∨d.t.shown=1:=hok.inv.sh;have HT:Hid _:=ht;clear ht hok;rcases hsh with hs|hs
 focus
  obtain⟨sv,hsv⟩:∃sv,sv=d.t.v0:=⟨_,rfl⟩;have HX:Hid (d.escape 0 56= {d with t:={d.t.jf sv with waits:=(if d.t.wrap=true then sv.waits else false),row:=(if sv.origin=true then DT.wi sv.row d.t.top d.t.bottom else sv.row)}}):=by
   show d.sj=_;have e:d.t.saved=sv:=by rw[hsv];unfold TS.saved;rw[ak hs]
   rw[←e];rfl
  have HSV:Hid _:=hsv;have HS:Hid _:=hs;clear hsv hs;go_enter func63,ntmps63;go_wp2_with fail;have HT0:bR ({w with drawn:=w.drawn+1}:World) tb v0 v1 fed done d:=HT.o.sm ((Ch.refl _ _).drewN 1);have qC:∀u (e:DT),e.t.shown=d.t.shown→e.t.v0=d.t.v0→bR u tb v0 v1 fed done e→u.cell? ⟨tb,20,none⟩=some (.int .i64 0)∧u.rangeAt tb 22 (aB sv):=fun u e e1 e2 hu=>⟨by rw[←HS.o, ←e1];exact hu.tq,by rw[HSV.o, ←e2];exact hu.range 22 _ rfl⟩;have HH:=qC _ d rfl rfl HT0;refine dX (S:=fun x=>x.cell? ⟨tb,20,none⟩=some (.int .i64 0)∧x.rangeAt tb 22 (aB sv)) aX ?_;refine ay 0 1 2 3 HH ?_;simp only[ag,af];refine ay 4 5 6 7 HH ?_;simp only[ag,af];refine aj 8 HH ?_;refine aj 9 HH ?_ (v:=.pointer (some ⟨tb,21,none⟩));refine aj 10 HH ?_;simp only[ag,af];refine aj 11 HH ?_ (v:=.agg (aB sv).toArray) (hy:=(kz (by rfl) 82 (.tmp 72) rfl tb 22 rfl (aB sv) _ (fun x h=>h.2) underlying82 rfl bH));refine dH 12 13 14 HH ?_;simp only[ag,af];refine av 15 ?_;refine gN 82 (.tmp 76) (.tmp 73) rfl rfl (v0':=v0) (v1':=v1) (kT:=fed) (done':=done) (d':={d with t:=d.t.jf sv}) 4 (aB sv) bH rfl rfl (iM _) HT0 htl (by simp[aB]) rfl HT0.h0 HT0.h1 ?_;intro u2 t2 c2;refine⟨qC _ ({d with t:=d.t.jf sv}:DT) rfl rfl t2,?_⟩;refine aC ?_;have HT1:Hid _:=t2;have kR:Hid (Ch (· =tb) w u2):=((Ch.refl _ _).drewN 1).trans c2;have c18:u2.cell? ⟨tb,18,none⟩=some (.bool d.t.wrap):=t2.tu;have c15:u2.cell? ⟨tb,15,none⟩=some (.bool sv.origin):=t2.yf;clear t2 c2 HH qC HT0
 rotate_left 1
 focus
  obtain⟨sv,hsv⟩:∃sv,sv=d.t.v1:=⟨_,rfl⟩;have HX:Hid (d.escape 0 56= {d with t:={d.t.jf sv with waits:=(if d.t.wrap=true then sv.waits else false),row:=(if sv.origin=true then DT.wi sv.row d.t.top d.t.bottom else sv.row)}}):=by
   show d.sj=_;have e:d.t.saved=sv:=by rw[hsv];unfold TS.saved;rw[ai (by omega)]
   rw[←e];rfl
  have HSV:Hid _:=hsv;have HS:Hid _:=hs;clear hsv hs;go_enter func63,ntmps63;go_wp2_with fail;have HT0:bR ({w with drawn:=w.drawn+1}:World) tb v0 v1 fed done d:=HT.o.sm ((Ch.refl _ _).drewN 1);have qC:∀u (e:DT),e.t.shown=d.t.shown→e.t.v1=d.t.v1→bR u tb v0 v1 fed done e→u.cell? ⟨tb,20,none⟩=some (.int .i64 1)∧u.rangeAt tb 35 (aB sv):=fun u e e1 e2 hu=>⟨by rw[←HS.o, ←e1];exact hu.tq,by rw[HSV.o, ←e2];exact hu.range 35 _ rfl⟩;have HH:=qC _ d rfl rfl HT0;refine dX (S:=fun x=>x.cell? ⟨tb,20,none⟩=some (.int .i64 1)∧x.rangeAt tb 35 (aB sv)) aX ?_;refine ay 0 1 2 3 HH ?_;simp only[ag,af];refine ay 4 5 6 7 HH ?_;simp only[ag,af];refine aj 8 HH ?_;refine aj 9 HH ?_ (v:=.pointer (some ⟨tb,34,none⟩));refine aj 10 HH ?_;simp only[ag,af];refine aj 11 HH ?_ (v:=.agg (aB sv).toArray) (hy:=(kz (by rfl) 82 (.tmp 72) rfl tb 35 rfl (aB sv) _ (fun x h=>h.2) underlying82 rfl bH));refine dH 12 13 14 HH ?_;simp only[ag,af];refine av 15 ?_;refine gN 82 (.tmp 76) (.tmp 73) rfl rfl (v0':=v0) (v1':=v1) (kT:=fed) (done':=done) (d':={d with t:=d.t.jf sv}) 4 (aB sv) bH rfl rfl (iM _) HT0 htl (by simp[aB]) rfl HT0.h0 HT0.h1 ?_;intro u2 t2 c2;refine⟨qC _ ({d with t:=d.t.jf sv}:DT) rfl rfl t2,?_⟩;refine aC ?_;have HT1:Hid _:=t2;have kR:Hid (Ch (· =tb) w u2):=((Ch.refl _ _).drewN 1).trans c2;have c18:u2.cell? ⟨tb,18,none⟩=some (.bool d.t.wrap):=t2.tu;have c15:u2.cell? ⟨tb,15,none⟩=some (.bool sv.origin):=t2.yf;clear t2 c2 HH qC HT0
 all_goals
  by_cases hw:d.t.wrap=true
  focus
   rw[hw]at c18;obtain⟨E,hE⟩:∃E:DT,E= {d with t:=d.t.jf sv}:=⟨_,rfl⟩;have HT2:Hid (bR u2 tb v0 v1 fed done E):=by rw[hE];exact HT1.o
   have Uf:Hid (d.escape 0 56= {E with t:={E.t with row:=(if sv.origin=true then DT.wi sv.row d.t.top d.t.bottom else sv.row)}}):=by show _=_;rw[HX.o,hE,ak hw];rfl
   have mD:Hid (Ch (· =tb) w u2):=kR.o;have er:E.t.row=sv.row∧E.t.top=d.t.top∧E.t.bottom=d.t.bottom∧E.tb=d.tb:=by rw[hE];exact⟨rfl,rfl,rfl,rfl⟩
   have VI:Hid _:=er;clear hE er HX HT1 kR hw;generalize hu3:u2=u3 at*;clear hu3
  rotate_left 1
  focus
   have hwf:d.t.wrap=false:=by simpa using hw
   rw[hwf]at c18;clear hw c15;go_wp2_with (refine aS rfl 4 dZ (.tmp 87) _ rfl rfl {d with t:={d.t.jf sv with waits:=false}} 6 (.bool false) rfl rfl rfl rfl HT1.o htl (by decide) rfl rfl rfl ?_);intro u3 t3 k3;obtain⟨E,hE⟩:∃E:DT,E= {d with t:={d.t.jf sv with waits:=false}}:=⟨_,rfl⟩;have HT2:Hid (bR u3 tb v0 v1 fed done E):=by rw[hE];exact t3
   have Uf:Hid (d.escape 0 56= {E with t:={E.t with row:=(if sv.origin=true then DT.wi sv.row d.t.top d.t.bottom else sv.row)}}):=by show _=_;rw[HX.o,hE,ai (show¬d.t.wrap=true by rw[hwf];decide)]
   have mD:Hid (Ch (· =tb) w u3):=kR.o.trans k3;have c15:u3.cell? ⟨tb,15,none⟩=some (.bool sv.origin):=t3.yf;have er:E.t.row=sv.row∧E.t.top=d.t.top∧E.t.bottom=d.t.bottom∧E.tb=d.tb:=by rw[hE];exact⟨rfl,rfl,rfl,rfl⟩
   have VI:Hid _:=er;clear hE er HX HT1 kR hwf t3 k3
  all_goals
   have hlE:E.tb.length=40:=by rw[VI.o.2.2.2];exact htl
   by_cases ho:sv.origin=true
   ·rw[ho]at c15;have HO:Hid _:=ho;clear ho;go_wp2_with fail;have HT0:bR ({u3 with drawn:=u3.drawn+1}:World) tb v0 v1 fed done E:=HT2.o.sm ((Ch.refl _ _).drewN 1);have qC:∀u (e:DT),e.t.top=d.t.top→e.t.bottom=d.t.bottom→bR u tb v0 v1 fed done e→u.cell? ⟨tb,16,none⟩=some (.int .i64 d.t.top)∧u.cell? ⟨tb,17,none⟩=some (.int .i64 d.t.bottom):=fun u e e1 e2 hu=>⟨by rw[←e1];exact hu.rY,by rw[←e2];exact hu.qG⟩;have HH:=qC _ E VI.o.2.1 VI.o.2.2.1 HT0;have H4:World.cell? ({u3 with drawn:=u3.drawn+1}:World) ⟨tb,4,none⟩=some (.int .i64 sv.row):=by rw[←VI.o.1];exact HT0.Dq
    refine dX (S:=fun x=>x.cell? ⟨tb,16,none⟩=some (.int .i64 d.t.top)∧x.cell? ⟨tb,17,none⟩=some (.int .i64 d.t.bottom)) aX ?_;refine ay 0 1 2 3 HH ?_;simp only[ag,af];refine ay 4 5 7 8 HH ?_;simp only[ag,af];refine ay 9 10 11 12 HH ?_;simp only[ag,af];refine ay 13 14 15 16 HH ?_;simp only[ag,af];refine av 6 ?_;refine qz 100 (.tmp 99) rfl rfl _ sv.row rfl H4 ?_;refine⟨HH,?_⟩;simp only[ag,af];refine av 17 ?_;refine dN (vs:=[.int .i64 sv.row,.int .i64 d.t.top,.int .i64 d.t.bottom]) (dh _ _ _ _) ?_;rintro v2 w9 ⟨rfl,rfl⟩;refine⟨HH,?_⟩;simp only[ag,af];refine ay 18 19 20 21 HH ?_;simp only[ag,af];refine av 22 ?_;refine sN 3 dL (.tmp 115) (.tmp 111) rfl rfl (d':={E with t:={E.t with row:=DT.wi sv.row d.t.top d.t.bottom}}) 4 (.int .i64 (DT.wi sv.row d.t.top d.t.bottom)) rfl rfl rfl rfl HT0 hlE (by decide) rfl HT0.h0 HT0.h1 ?_;intro u7 t7 k7;refine⟨qC _ ({E with t:={E.t with row:=DT.wi sv.row d.t.top d.t.bottom}}:DT) VI.o.2.1 VI.o.2.2.1 t7,?_⟩;refine aC ?_;have xq:Hid _:=t7;have Al:Hid (Ch (· =tb) w u7):=(mD.o.drewN 1).trans k7;clear t7 k7 HH qC HT0 H4;go_wp2_with fail;go_end0
    first|refine⟨rfl,v0,v1,?_,Al.o⟩|refine⟨rfl,⟨v0,v1,?_⟩,Al.o⟩
    rw[Uf.o,ak HO.o];exact xq.o
   ·have hof:sv.origin=false:=by simpa using ho
    rw[hof]at c15;clear ho;go_wp2_with fail;go_end0
    first|refine⟨rfl,v0,v1,?_,mD.o⟩|refine⟨rfl,⟨v0,v1,?_⟩,mD.o⟩
    rw[Uf.o,ai (by rw[hof];decide), ←VI.o.1];exact HT2.o
theorem Gu(tb:Nat)(v0 v1:Value)(fed:ByteArray)(done:Nat)(d:DT)(mk c:Int)(w:World)(ht:bR w tb v0 v1 fed done d)(hok:d.Ok):Calls prog 63 #[.pointer (some ⟨tb,0,none⟩),.int .i64 mk,.int .i64 c] w fun e w'=>e= .returned (.tuple #[])∧∃v0' v1',bR w' tb v0' v1' fed done (d.escape mk c)∧Ch (· =tb) w w':=by
 have htl:=hok.tl;have HT:Hid _:=ht;have iV:Hid _:=hok;clear ht hok;by_cases h0:mk=0
 ·subst h0;by_cases h55:c=55
  ·subst h55;exact M7 tb v0 v1 fed done d w HT.o iV.o
  by_cases h56:c=56
  ·subst h56;exact EL tb v0 v1 fed done d w HT.o iV.o
  by_cases h68:c=68
  ·subst h68;obtain⟨D,hD⟩:∃D,D=d.down:=⟨_,rfl⟩;have hX:d.escape 0 68= {D with t:={D.t with waits:=false}}:=by rw[hD];rfl
   rw[hX];have HD:Hid _:=hD;have OO:D.tb.length=40:=by rw[hD];exact iV.o.down.tl
   clear hX hD;go_enter func63,ntmps63;go_wp2_with fail;refine(oI tb v0 v1 fed done d w HT.o iV.o).mono ?_;rintro e w2 ⟨rfl,x0,x1,t2,k2⟩;rw[←HD.o]at t2;have HT2:Hid _:=t2;go_wp2_with (refine aS rfl 4 dZ (.tmp 125) _ rfl rfl {D with t:={D.t with waits:=false}} 6 (.bool false) rfl rfl rfl rfl HT2.o OO (by decide) rfl rfl rfl ?_);intro u3 t3 k3;go_wp2_with fail
   first|go_end0|((try simp only[Exit.inBlock,Exit.then]);refine bX (dz rfl _ _ _) rfl ?_)
   first|exact⟨rfl,x0,x1,t3,(k2.trans k3)⟩|exact⟨rfl,⟨x0,x1,t3⟩,(k2.trans k3)⟩
  by_cases h69:c=69
  ·subst h69;obtain⟨D,hD⟩:∃D,D=d.down:=⟨_,rfl⟩;have hX:d.escape 0 69= {D with t:={D.t with waits:=false,col:=0}}:=by rw[hD];rfl
   rw[hX];have HD:Hid _:=hD;have OO:D.tb.length=40:=by rw[hD];exact iV.o.down.tl
   clear hX hD;go_enter func63,ntmps63;go_wp2_with fail;refine(oI tb v0 v1 fed done d w HT.o iV.o).mono ?_;rintro e w2 ⟨rfl,x0,x1,t2,k2⟩;rw[←HD.o]at t2;have HT2:Hid _:=t2;go_wp2_with (refine aS rfl 4 dZ (.tmp 125) _ rfl rfl {D with t:={D.t with waits:=false}} 6 (.bool false) rfl rfl rfl rfl HT2.o OO (by decide) rfl rfl rfl ?_);intro u3 t3 k3;have HT3:Hid _:=t3;go_wp2_with (refine aS rfl 3 dL (.tmp 132) _ rfl rfl {D with t:={D.t with waits:=false,col:=0}} 5 (.int .i64 0) rfl rfl rfl rfl HT3.o OO (by decide) rfl rfl rfl ?_);intro u4 t4 k4;go_wp2_with fail
   first|go_end0|((try simp only[Exit.inBlock,Exit.then]);refine bX (dz rfl _ _ _) rfl ?_)
   first|exact⟨rfl,x0,x1,t4,((k2.trans k3).trans k4)⟩|exact⟨rfl,⟨x0,x1,t4⟩,((k2.trans k3).trans k4)⟩
  by_cases h77:c=77
  ·subst h77;obtain⟨D,hD⟩:∃D,D=d.up:=⟨_,rfl⟩;have hX:d.escape 0 77= {D with t:={D.t with waits:=false}}:=by rw[hD];rfl
   rw[hX];have HD:Hid _:=hD;have OO:D.tb.length=40:=by rw[hD];exact iV.o.up.tl
   clear hX hD;go_enter func63,ntmps63;go_wp2_with fail;refine(UG tb v0 v1 fed done d w HT.o iV.o).mono ?_;rintro e w2 ⟨rfl,x0,x1,t2,k2⟩;rw[←HD.o]at t2;have HT2:Hid _:=t2;go_wp2_with (refine aS rfl 4 dZ (.tmp 141) _ rfl rfl {D with t:={D.t with waits:=false}} 6 (.bool false) rfl rfl rfl rfl HT2.o OO (by decide) rfl rfl rfl ?_);intro u3 t3 k3;go_wp2_with fail
   first|go_end0|((try simp only[Exit.inBlock,Exit.then]);refine bX (dz rfl _ _ _) rfl ?_)
   first|exact⟨rfl,x0,x1,t3,(k2.trans k3)⟩|exact⟨rfl,⟨x0,x1,t3⟩,(k2.trans k3)⟩
  by_cases h72:c=72
  ·subst h72;obtain⟨k,hk,hkc⟩:=iV.o.cl;have hc2:d.t.ah≤40:=iV.o.inv.c2;have hX:d.escape 0 72= {d with tb:=d.tb.set k true}:=by show({d with tb:=d.tb.set d.t.col.toNat true}:DT)=_;rw[show d.t.col.toNat=k by omega]
   rw[hX];have ik:(k:Int)<40:=by omega
   have hjk:47+k<88:=by omega
   have hset:=xh v0 v1 fed done d k true (by rw[htl];omega);have Jk:Hid _:=hset;have HK':Hid _:=hk;clear hX hset hk;go_enter func63,ntmps63;go_wp2_with fail;have HT0:bR ({w with drawn:=w.drawn+1}:World) tb v0 v1 fed done d:=HT.o.sm ((Ch.refl _ _).drewN 1);have qC:∀u (e:DT),e.t.col=d.t.col→bR u tb v0 v1 fed done e→u.cell? ⟨tb,5,none⟩=some (.int .i64 (k:Int)):=fun u e e1 hu=>by rw[←HK'.o, ←e1];exact hu.oz
   have HH:=qC _ d rfl HT0;refine dX (S:=fun x=>x.cell? ⟨tb,5,none⟩=some (.int .i64 (k:Int))) aX ?_;refine ay 0 1 2 3 HH ?_;simp only[ag,af];refine ay 4 5 6 7 HH ?_;simp only[ag,af];refine aj 8 HH ?_;refine aj 9 HH ?_ (v:=.pointer (some ⟨tb,47+k,none⟩));simp only[ag,af];refine av 10 ?_;refine sN 4 dZ (.tmp 153) _ rfl rfl (v0':=v0) (v1':=v1) (kT:=fed) (done':=done) (d':={d with tb:=d.tb.set k true}) (47+k) (.bool true) rfl rfl rfl rfl HT0 htl hjk Jk.o HT0.h0 HT0.h1 ?_;intro u2 t2 k2;refine⟨qC _ ({d with tb:=d.tb.set k true}:DT) rfl t2,?_⟩;refine aC ?_;have HT2:Hid _:=t2;have mD:Hid (Ch (· =tb) w u2):=((Ch.refl _ _).drewN 1).trans k2;clear t2 k2 HH qC HT0;go_wp2_with fail
   first|go_end0|((try simp only[Exit.inBlock,Exit.then]);refine bX (dz rfl _ _ _) rfl ?_)
   first|exact⟨rfl,v0,v1,HT2.o,mD.o⟩|exact⟨rfl,⟨v0,v1,HT2.o⟩,mD.o⟩
  by_cases h99:c=99
  ·subst h99;have hX:d.escape 0 99=DT.fresh d.t.rows d.t.ah d.ids:=rfl;rw[hX];clear hX;have hc2:d.t.ah≤40:=iV.o.inv.c2;have hr2:d.t.rows≤12:=iV.o.inv.r2;go_enter func63,ntmps63;go_wp2_with fail;refine(Ae tb v0 v1 fed done d w HT.o htl hc2 hr2).mono ?_;rintro e w2 ⟨rfl,x0,x1,t2,k2⟩;go_wp2_with fail
   first|go_end0|((try simp only[Exit.inBlock,Exit.then]);refine bX (dz rfl _ _ _) rfl ?_)
   first|exact⟨rfl,x0,x1,t2,k2⟩|exact⟨rfl,⟨x0,x1,t2⟩,k2⟩
  have hX:d.escape 0 c=d:=by show d.bare c=d;unfold DT.bare;rw[ai h55,ai h56,ai h68,ai h69,ai h77,ai h72,ai h99]
  have b55:(c==55)=false:=by simp[h55]
  have b56:(c==56)=false:=by simp[h56]
  have b68:(c==68)=false:=by simp[h68]
  have b69:(c==69)=false:=by simp[h69]
  have b77:(c==77)=false:=by simp[h77]
  have b72:(c==72)=false:=by simp[h72]
  have b99:(c==99)=false:=by simp[h99]
  by_cases h48:c=48
  ·subst h48;rw[hX];clear hX;clear b55 b56 b68 b69 b77 b72 b99 h55 h56 h68 h69 h77 h72 h99;go_enter func63,ntmps63;go_wp2_with fail
   first|go_end0|((try simp only[Exit.inBlock,Exit.then]);refine bX (dz rfl _ _ _) rfl ?_)
   first|exact⟨rfl,v0,v1,HT.o,(Ch.refl _ _)⟩|exact⟨rfl,⟨v0,v1,HT.o⟩,(Ch.refl _ _)⟩
  have b48:(c==48)=false:=by simp[h48]
  by_cases h66:c=66
  ·subst h66;rw[hX];clear hX;clear b55 b56 b68 b69 b77 b72 b99 h55 h56 h68 h69 h77 h72 h99 b48 h48;go_enter func63,ntmps63;go_wp2_with fail
   first|go_end0|((try simp only[Exit.inBlock,Exit.then]);refine bX (dz rfl _ _ _) rfl ?_)
   first|exact⟨rfl,v0,v1,HT.o,(Ch.refl _ _)⟩|exact⟨rfl,⟨v0,v1,HT.o⟩,(Ch.refl _ _)⟩
  have b66:(c==66)=false:=by simp[h66]
  rw[hX];clear hX;go_enter func63,ntmps63;go_wp2_with fail
  first|go_end0|((try simp only[Exit.inBlock,Exit.then]);refine bX (dz rfl _ _ _) rfl ?_)
  first|exact⟨rfl,v0,v1,HT.o,(Ch.refl _ _)⟩|exact⟨rfl,⟨v0,v1,HT.o⟩,(Ch.refl _ _)⟩
 have b0:(mk==0)=false:=by simp[h0]
 by_cases h40:mk=40
 ·subst h40;by_cases h48:c=48
  ·subst h48;have hX:d.escape 40 48= {d with t:={d.t with first:=1}}:=rfl;rw[hX];clear hX;go_enter func63,ntmps63;go_wp2_with (refine aS rfl 3 dL (.tmp 27) _ rfl rfl {d with t:={d.t with first:=1}} 12 (.int .i64 1) rfl rfl rfl rfl HT.o htl (by decide) rfl rfl rfl ?_);intro u2 t2 k2;go_wp2_with fail
   first|go_end0|((try simp only[Exit.inBlock,Exit.then]);refine bX (dz rfl _ _ _) rfl ?_)
   first|exact⟨rfl,v0,v1,t2,k2⟩|exact⟨rfl,⟨v0,v1,t2⟩,k2⟩
  have b48:(c==48)=false:=by simp[h48]
  by_cases h66:c=66
  ·subst h66;have hX:d.escape 40 66= {d with t:={d.t with first:=0}}:=rfl;rw[hX];clear hX;go_enter func63,ntmps63;go_wp2_with (refine aS rfl 3 dL (.tmp 27) _ rfl rfl {d with t:={d.t with first:=0}} 12 (.int .i64 0) rfl rfl rfl rfl HT.o htl (by decide) rfl rfl rfl ?_);intro u2 t2 k2;go_wp2_with fail
   first|go_end0|((try simp only[Exit.inBlock,Exit.then]);refine bX (dz rfl _ _ _) rfl ?_)
   first|exact⟨rfl,v0,v1,t2,k2⟩|exact⟨rfl,⟨v0,v1,t2⟩,k2⟩
  have b66:(c==66)=false:=by simp[h66]
  have hX:d.escape 40 c=d:=by unfold DT.escape;rw[ai (by decide),ai (by omega),ai (by omega)]
  rw[hX];clear hX;go_enter func63,ntmps63;go_wp2_with fail
  first|go_end0|((try simp only[Exit.inBlock,Exit.then]);refine bX (dz rfl _ _ _) rfl ?_)
  first|exact⟨rfl,v0,v1,HT.o,(Ch.refl _ _)⟩|exact⟨rfl,⟨v0,v1,HT.o⟩,(Ch.refl _ _)⟩
 have b40:(mk==40)=false:=by simp[h40]
 by_cases h41:mk=41
 ·subst h41;by_cases h48:c=48
  ·subst h48;have hX:d.escape 41 48= {d with t:={d.t with second:=1}}:=rfl;rw[hX];clear hX;go_enter func63,ntmps63;go_wp2_with (refine aS rfl 3 dL (.tmp 39) _ rfl rfl {d with t:={d.t with second:=1}} 13 (.int .i64 1) rfl rfl rfl rfl HT.o htl (by decide) rfl rfl rfl ?_);intro u2 t2 k2;go_wp2_with fail
   first|go_end0|((try simp only[Exit.inBlock,Exit.then]);refine bX (dz rfl _ _ _) rfl ?_)
   first|exact⟨rfl,v0,v1,t2,k2⟩|exact⟨rfl,⟨v0,v1,t2⟩,k2⟩
  have b48:(c==48)=false:=by simp[h48]
  by_cases h66:c=66
  ·subst h66;have hX:d.escape 41 66= {d with t:={d.t with second:=0}}:=rfl;rw[hX];clear hX;go_enter func63,ntmps63;go_wp2_with (refine aS rfl 3 dL (.tmp 39) _ rfl rfl {d with t:={d.t with second:=0}} 13 (.int .i64 0) rfl rfl rfl rfl HT.o htl (by decide) rfl rfl rfl ?_);intro u2 t2 k2;go_wp2_with fail
   first|go_end0|((try simp only[Exit.inBlock,Exit.then]);refine bX (dz rfl _ _ _) rfl ?_)
   first|exact⟨rfl,v0,v1,t2,k2⟩|exact⟨rfl,⟨v0,v1,t2⟩,k2⟩
  have b66:(c==66)=false:=by simp[h66]
  have hX:d.escape 41 c=d:=by unfold DT.escape;rw[ai (by decide),ai (by omega),ai (by omega)]
  rw[hX];clear hX;go_enter func63,ntmps63;go_wp2_with fail
  first|go_end0|((try simp only[Exit.inBlock,Exit.then]);refine bX (dz rfl _ _ _) rfl ?_)
  first|exact⟨rfl,v0,v1,HT.o,(Ch.refl _ _)⟩|exact⟨rfl,⟨v0,v1,HT.o⟩,(Ch.refl _ _)⟩
 have b41:(mk==41)=false:=by simp[h41]
 have hX:d.escape mk c=d:=by unfold DT.escape;rw[ai h0,ai (by omega),ai (by omega)]
 by_cases h48:c=48
 ·subst h48;rw[hX];clear hX;go_enter func63,ntmps63;go_wp2_with fail
  first|go_end0|((try simp only[Exit.inBlock,Exit.then]);refine bX (dz rfl _ _ _) rfl ?_)
  first|exact⟨rfl,v0,v1,HT.o,(Ch.refl _ _)⟩|exact⟨rfl,⟨v0,v1,HT.o⟩,(Ch.refl _ _)⟩
 have b48:(c==48)=false:=by simp[h48]
 by_cases h66:c=66
 ·subst h66;rw[hX];clear hX;go_enter func63,ntmps63;go_wp2_with fail
  first|go_end0|((try simp only[Exit.inBlock,Exit.then]);refine bX (dz rfl _ _ _) rfl ?_)
  first|exact⟨rfl,v0,v1,HT.o,(Ch.refl _ _)⟩|exact⟨rfl,⟨v0,v1,HT.o⟩,(Ch.refl _ _)⟩
 have b66:(c==66)=false:=by simp[h66]
 rw[hX];clear hX;go_enter func63,ntmps63;go_wp2_with fail
 first|go_end0|((try simp only[Exit.inBlock,Exit.then]);refine bX (dz rfl _ _ _) rfl ?_)
 first|exact⟨rfl,v0,v1,HT.o,(Ch.refl _ _)⟩|exact⟨rfl,⟨v0,v1,HT.o⟩,(Ch.refl _ _)⟩
theorem pg(ev:List Int)(ct i:Nat)(o:Int)(w:World)(hl:ev.length=21)(hct:ev.getD 4 0=(ct:Int))(hi:i<16)(hc16:ct≤16):Calls prog 129 #[.agg (aA ev),.int .i64 (i:Int),.int .i64 o] w fun e w'=>e= .returned (.int .i64 (DT.qO (ev.drop 5) ct i o))∧Sm w w':=by
 obtain⟨W,hW⟩:∃W,W=w.alloc (.cells (aA ev) 46):=⟨_,rfl⟩;have GW:W.heap[w.heap.size]? =some (.cells (aA ev) 46 (0,0)):=by rw[hW];exact bV _ _
 have SW:Sm w W:=by rw[hW];exact(Ch.refl _ _).alloc _
 have c4:W.cell? ⟨w.heap.size,4,none⟩=some (.int .i64 (ct:Int)):=by rw[bG _ _ _ _ _ _ GW, ←hct];have:=jo ev 4 (by omega);simpa[aA]using this
 obtain⟨p,hp⟩:∃p,p=(ev.drop 5).getD i 0:=⟨_,rfl⟩;have ci:W.cell? ⟨w.heap.size,5+i,none⟩=some (.int .i64 p):=by
  rw[bG _ _ _ _ _ _ GW,hp];have:=jo ev (5+i) (by omega);have e:(ev.drop 5).getD i 0=ev.getD (5+i) 0:=by simp[List.getD,rf]
  rw[e];simpa[aA]using this
 rw[hW]at c4 ci SW;have Cs:Hid _:=SW;have ii:(i:Int)<16:=by omega
 have hN:DT.qO (ev.drop 5) ct i o=if ct≤i∨p<o then o else p:=by rw[hp];rfl
 have HN:Hid _:=hN;have HP:Hid _:=hp;clear hW GW SW hN hp hct;rw[HN.o];by_cases h1:ct≤i
 ·have d1:(ct:Int)≤(i:Int):=by omega
  go_enter func129,ntmps129;go_wp2_with fail;go_ret;exact⟨by first|rfl|rw[ak (.inl h1)],Cs.o⟩
 ·have d1:decide ((ct:Int)≤(i:Int))=false:=by simp;omega
  by_cases h2:p<o
  ·go_enter func129,ntmps129;go_wp2_with fail;go_ret;exact⟨by first|rfl|rw[ak (.inr h2)],Cs.o⟩
  ·have d2:decide (p<o)=false:=by simp;omega
   go_enter func129,ntmps129;go_wp2_with fail;go_ret;exact⟨by first|rfl|rw[ai (by omega)],Cs.o⟩
theorem eH:(prog.info? 80).map (·.size)=some 5:=by kernel_rfl
theorem gG(w:World)(A B:Obj):((w.alloc A).alloc B).heap[w.heap.size+1]? =some B:=by
 have e:(w.alloc A).heap.size=w.heap.size+1:=by simp
 rw[←e];exact bV _ _
theorem Gx(p:fO)(n:Int)(w:World)(hn:0≤n∧n≤70000):Calls prog 138 #[.agg (aW p),.int .i64 n] w fun e w'=>e= .returned (.agg (aW (TS.turn p n)))∧Sm w w':=by
 show Calls prog 138 #[.agg #[.bool p.b,.bool p.u,.bool p.t,.int .i64 p.f,.int .i64 p.k],.int .i64 n] w _;by_cases h0:n=0
 ·subst h0;rw[show TS.turn p 0=mO from rfl];go_enter func138,ntmps138;go_wp2_with fail;exact bX (eX results138 _ _ (w.heap.size+1) (dG mO) 80 (0,0) underlying80 eH rfl (gG _ _ _)) rfl ⟨rfl,((Ch.refl _ _).alloc _).alloc _⟩
 have b0:(n==0)=false:=by simp[h0]
 by_cases h1:n=1
 ·subst h1;rw[show TS.turn p 1= {p with b:=true} from rfl];go_enter func138,ntmps138;go_wp2_with fail;exact bX (eX results138 _ _ (w.heap.size+1) (dG {p with b:=true}) 80 (0,0) underlying80 eH rfl (gG _ _ _)) rfl ⟨rfl,((Ch.refl _ _).alloc _).alloc _⟩
 have b1:(n==1)=false:=by simp[h1]
 by_cases h22:n=22
 ·subst h22;rw[show TS.turn p 22= {p with b:=false} from rfl];go_enter func138,ntmps138;go_wp2_with fail;exact bX (eX results138 _ _ (w.heap.size+1) (dG {p with b:=false}) 80 (0,0) underlying80 eH rfl (gG _ _ _)) rfl ⟨rfl,((Ch.refl _ _).alloc _).alloc _⟩
 have b22:(n==22)=false:=by simp[h22]
 by_cases h4:n=4
 ·subst h4;rw[show TS.turn p 4= {p with u:=true} from rfl];go_enter func138,ntmps138;go_wp2_with fail;exact bX (eX results138 _ _ (w.heap.size+1) (dG {p with u:=true}) 80 (0,0) underlying80 eH rfl (gG _ _ _)) rfl ⟨rfl,((Ch.refl _ _).alloc _).alloc _⟩
 have b4:(n==4)=false:=by simp[h4]
 by_cases h24:n=24
 ·subst h24;rw[show TS.turn p 24= {p with u:=false} from rfl];go_enter func138,ntmps138;go_wp2_with fail;exact bX (eX results138 _ _ (w.heap.size+1) (dG {p with u:=false}) 80 (0,0) underlying80 eH rfl (gG _ _ _)) rfl ⟨rfl,((Ch.refl _ _).alloc _).alloc _⟩
 have b24:(n==24)=false:=by simp[h24]
 by_cases h7:n=7
 ·subst h7;rw[show TS.turn p 7= {p with t:=true} from rfl];go_enter func138,ntmps138;go_wp2_with fail;exact bX (eX results138 _ _ (w.heap.size+1) (dG {p with t:=true}) 80 (0,0) underlying80 eH rfl (gG _ _ _)) rfl ⟨rfl,((Ch.refl _ _).alloc _).alloc _⟩
 have b7:(n==7)=false:=by simp[h7]
 by_cases h27:n=27
 ·subst h27;rw[show TS.turn p 27= {p with t:=false} from rfl];go_enter func138,ntmps138;go_wp2_with fail;exact bX (eX results138 _ _ (w.heap.size+1) (dG {p with t:=false}) 80 (0,0) underlying80 eH rfl (gG _ _ _)) rfl ⟨rfl,((Ch.refl _ _).alloc _).alloc _⟩
 have b27:(n==27)=false:=by simp[h27]
 by_cases h39:n=39
 ·subst h39;rw[show TS.turn p 39= {p with f:=0} from rfl];go_enter func138,ntmps138;go_wp2_with fail;exact bX (eX results138 _ _ (w.heap.size+1) (dG {p with f:=0}) 80 (0,0) underlying80 eH rfl (gG _ _ _)) rfl ⟨rfl,((Ch.refl _ _).alloc _).alloc _⟩
 have b39:(n==39)=false:=by simp[h39]
 by_cases h49:n=49
 ·subst h49;rw[show TS.turn p 49= {p with k:=0} from rfl];go_enter func138,ntmps138;go_wp2_with fail;exact bX (eX results138 _ _ (w.heap.size+1) (dG {p with k:=0}) 80 (0,0) underlying80 eH rfl (gG _ _ _)) rfl ⟨rfl,((Ch.refl _ _).alloc _).alloc _⟩
 have b49:(n==49)=false:=by simp[h49]
 by_cases q30:30≤n∧n≤37
 ·have hX:TS.turn p n= {p with f:=n-29}:=by unfold TS.turn;rw[ai h0,ai (by omega),ai (by omega),ai (by omega),ak q30]
  rw[hX];have g1:30≤n:=q30.1;have g2':n≤37:=q30.2;have g3:decide (40≤n)=false:=by simp;omega
  have vv:IntKind.i64.wrap (n-29)=n-29:=bD _ (by omega);clear hX q30;go_enter func138,ntmps138;go_wp2_with fail;exact bX (eX results138 _ _ (w.heap.size+1) (dG {p with f:=n-29}) 80 (0,0) underlying80 eH rfl (gG _ _ _)) rfl ⟨rfl,((Ch.refl _ _).alloc _).alloc _⟩
 by_cases q40:40≤n∧n≤47
 ·have hX:TS.turn p n= {p with k:=n-39}:=by unfold TS.turn;rw[ai h0,ai (by omega),ai (by omega),ai (by omega),ai (by omega),ai (by omega),ak q40]
  rw[hX];have g0:30≤n:=by omega
  have g1:decide (n≤37)=false:=by simp;omega
  have g3:40≤n:=q40.1;have g4:n≤47:=q40.2;have vv:IntKind.i64.wrap (n-39)=n-39:=bD _ (by omega);clear hX q40 q30;go_enter func138,ntmps138;go_wp2_with fail;exact bX (eX results138 _ _ (w.heap.size+1) (dG {p with k:=n-39}) 80 (0,0) underlying80 eH rfl (gG _ _ _)) rfl ⟨rfl,((Ch.refl _ _).alloc _).alloc _⟩
 have hX:TS.turn p n=p:=by unfold TS.turn;rw[ai h0,ai (by omega),ai (by omega),ai (by omega),ai (by omega),ai (by omega),ai (by omega),ai (by omega)]
 rw[hX];clear hX;by_cases r30:30≤n
 ·have g1:decide (n≤37)=false:=by simp;omega
  by_cases r40:40≤n
  ·have g2':decide (n≤47)=false:=by simp;omega
   go_enter func138,ntmps138;go_wp2_with fail;exact bX (eX results138 _ _ (w.heap.size+1) (dG p) 80 (0,0) underlying80 eH rfl (gG _ _ _)) rfl ⟨rfl,((Ch.refl _ _).alloc _).alloc _⟩
  ·have g2':decide (40≤n)=false:=by simp;omega
   go_enter func138,ntmps138;go_wp2_with fail;exact bX (eX results138 _ _ (w.heap.size+1) (dG p) 80 (0,0) underlying80 eH rfl (gG _ _ _)) rfl ⟨rfl,((Ch.refl _ _).alloc _).alloc _⟩
 ·have g1:decide (30≤n)=false:=by simp;omega
  have g2':decide (40≤n)=false:=by simp;omega
  go_enter func138,ntmps138;go_wp2_with fail;exact bX (eX results138 _ _ (w.heap.size+1) (dG p) 80 (0,0) underlying80 eH rfl (gG _ _ _)) rfl ⟨rfl,((Ch.refl _ _).alloc _).alloc _⟩
end Go.Proofs.YtheibfffilomcaaGreatDoor
