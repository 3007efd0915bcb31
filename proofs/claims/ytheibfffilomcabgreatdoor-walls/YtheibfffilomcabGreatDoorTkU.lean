import Derived.Test.YtheibfffilomcabGreatDoorEvnU
import Derived.Test.YtheibfffilomcabGreatDoorTdU
set_option linter.all false
set_option maxRecDepth 100000
set_option maxHeartbeats 1000000
namespace Go.Proofs.YtheibfffilomcabGreatDoor
open Go.RowKit Go.Proofs.Tryz
variable {s:TS} {w u:World} {L:Lay} {a:Act} {Q:Exit→Act→World→Prop} {b:Nat} {t:TypeId}
theorem pW(L:Lay)(s:TS)(w:World)(ht:a_ w L s)(hi:s.Inv):Calls prog 170 #[.pointer (some ⟨L.tb,0,none⟩)] w fun e w'=>e= .returned (.slice (some ⟨L.sb s,s.top.toNat,none⟩) s.height (s.rows-s.top.toNat))∧∃m,w'=w.drewN m:=by
 have c38:=ht.c 38 _ rfl;have c39:=ht.c 39 _ rfl;have hsh:∀n,_:=fun n=>mg L s (w.drewN n) (ht.drewN n) hi;obtain⟨p,hp⟩:∃p:Nat,s.top=(p:Int):=⟨s.top.toNat,by have:=hi.gN;have:=hi.row0;omega⟩;obtain⟨b,hb⟩:∃b:Nat,s.bottom=(b:Int):=⟨s.bottom.toNat,by have:=hi.gN;have:=hi.tb;omega⟩;have hpb:p≤b:=by have:=hi.tb;omega
 have hbr:b<s.rows:=by have:=hi.bot;omega
 have hr2:=hi.r2;have hh:s.height=b+1-p:=by unfold TS.height;omega
 rw[hp]at c38;rw[hb]at c39;rw[hh,hp,wQ];have i1:s.rows≠p:=by omega
 have i2:(p:Int)≤(b:Int)+1:=by omega
 have i3:(b:Int)+1≤(s.rows:Int):=by omega
 have v1:IntKind.i64.wrap ((b:Int)+1)=(b:Int)+1:=bV _ (by omega);have t1:((b:Int)+1).toNat=b+1:=by omega
 have j1:(0:Int)≤(b:Int)+1:=by omega
 unfold Lay.sb;rcases hi.sh with h|h
 ·have c0:=ht.c 0 _ rfl;rw[aS h];simp only[aS h]at hsh;clear ht hi h hp hb hh;go_enter func170,ntmps170;go_wp2_with fail;go_quiet ((go_at_call 165;exact Calls.quiet_of (hsh _)));go_wp2_with fail;go_ret;exact⟨rfl,_,rfl⟩
 ·have c0:=ht.c 13 _ rfl;rw[aG (show¬s.shown=0 by omega)];simp only[aG (show¬s.shown=0 by omega)]at hsh;clear ht hi h hp hb hh;go_enter func170,ntmps170;go_wp2_with fail;go_quiet ((go_at_call 165;exact Calls.quiet_of (hsh _)));go_wp2_with fail;go_ret;exact⟨rfl,_,rfl⟩
theorem vg(L:Lay)(s:TS)(w:World)(ht:a_ w L s)(hi:s.Inv)(hin:s.row≤s.bottom):Calls prog 187 #[.pointer (some ⟨L.tb,0,none⟩)] w fun e w'=>e= .returned (.slice (some ⟨L.sb s,s.row.toNat,none⟩) s.below (s.rows-s.row.toNat))∧∃m,w'=w.drewN m:=by
 have c26:=ht.c 26 _ rfl;have c39:=ht.c 39 _ rfl;have hsh:∀n,_:=fun n=>mg L s (w.drewN n) (ht.drewN n) hi;obtain⟨p,hp⟩:∃p:Nat,s.row=(p:Int):=⟨s.row.toNat,by have:=hi.gN;have:=hi.row0;omega⟩;obtain⟨b,hb⟩:∃b:Nat,s.bottom=(b:Int):=⟨s.bottom.toNat,by have:=hi.gN;have:=hi.tb;omega⟩;have hpb:p≤b:=by have:=hi.tb;omega
 have hbr:b<s.rows:=by have:=hi.bot;omega
 have hr2:=hi.r2;have hh:s.below=b+1-p:=by unfold TS.below;omega
 rw[hp]at c26;rw[hb]at c39;rw[hh,hp,wQ];have i1:s.rows≠p:=by omega
 have i2:(p:Int)≤(b:Int)+1:=by omega
 have i3:(b:Int)+1≤(s.rows:Int):=by omega
 have v1:IntKind.i64.wrap ((b:Int)+1)=(b:Int)+1:=bV _ (by omega);have t1:((b:Int)+1).toNat=b+1:=by omega
 have j1:(0:Int)≤(b:Int)+1:=by omega
 unfold Lay.sb;rcases hi.sh with h|h
 ·have c0:=ht.c 0 _ rfl;rw[aS h];simp only[aS h]at hsh;clear ht hi h hp hb hh;go_enter func187,ntmps187;go_wp2_with fail;go_quiet ((go_at_call 165;exact Calls.quiet_of (hsh _)));go_wp2_with fail;go_ret;exact⟨rfl,_,rfl⟩
 ·have c0:=ht.c 13 _ rfl;rw[aG (show¬s.shown=0 by omega)];simp only[aG (show¬s.shown=0 by omega)]at hsh;clear ht hi h hp hb hh;go_enter func187,ntmps187;go_wp2_with fail;go_quiet ((go_at_call 165;exact Calls.quiet_of (hsh _)));go_wp2_with fail;go_ret;exact⟨rfl,_,rfl⟩
theorem Pg(L:Lay)(s:TS)(w:World)(ht:a_ w L s)(hi:s.Inv)(n:Int)(hn:0≤n∧n≤70000):Calls prog 178 #[.pointer (some ⟨L.tb,0,none⟩),.int .i64 n] w fun e w'=>e= .returned (.tuple #[])∧a_ w' L (s.rise n)∧Ch L.own w w':=by
 have c26:=ht.c 26 _ rfl;have c38:=ht.c 38 _ rfl;have f26:=ht.f 26;have hr0:=hi.row0;have hr1:=hi.iT;have hr2:=hi.r2;have v1:IntKind.i64.wrap (s.row-n)=s.row-n:=bV _ (by omega);have hX:s.rise n= {s with row:=max (s.row-n) (if s.top≤s.row then s.top else 0)}:=rfl;generalize s.rise n=X at*;have HX:Hid _:=hX;have HT:Hid _:=ht;clear ht hX hi;by_cases hq:s.top≤s.row
 ·rw[aS hq]at HX;go_enter func178,ntmps178;go_wp2_with fail;go_quiet (fail);go_wp2_with fail
  all_goals go_end0
  all_goals refine⟨rfl,?_,((Ch.refl _ _).drewN _).jI _ _⟩
  all_goals rw[HX.o]
  all_goals refine(HT.o.drewN _).set 26 _ ?_ rfl rfl rfl rfl
  ·rw[Int.max_eq_right (by omega)];rfl
  ·rw[Int.max_eq_left (by omega)];rfl
 ·rw[aG hq]at HX;have dq:decide (s.top≤s.row)=false:=by simp[hq]
  go_enter func178,ntmps178;go_wp2_with fail;go_quiet (fail);go_wp2_with fail
  all_goals go_end0
  all_goals refine⟨rfl,?_,((Ch.refl _ _).drewN _).jI _ _⟩
  all_goals rw[HX.o]
  all_goals refine(HT.o.drewN _).set 26 _ ?_ rfl rfl rfl rfl
  ·rw[Int.max_eq_right (by omega)];rfl
  ·rw[Int.max_eq_left (by omega)];rfl
theorem zS{o:Oper}{K:Act→World→Prop}(ty:TypeId)(hsz:(prog.info? ty).map (·.size)=some 1)(x y:Operand)(ho:o.op= .store ty x y)(hd:o.dst=none)(L:Lay)(s s':TS)(j:Nat)(v:Value)(hx:a.eval x= .pointer (some ⟨L.tb,j,none⟩))(hy:a.eval y=v)(hv:v.cells= #[v])(h1:v.oneCell'=true)(ht:a_ u L s)(hj:j<44)(hL:(iW L s).set j v=iW L s')(hc:s'.aa=s.aa)(h0:s'.s0=s.s0)(h1':s'.s1=s.s1)(htb:s'.tabs=s.tabs)(h:∀u',a_ u' L s'→Ch L.own u u'→(∀i,i≠j→u'.cell? ⟨L.tb,i,none⟩=u.cell? ⟨L.tb,i,none⟩)→K a u'):Oper.wp prog o a u K Q:=by
 have hc0:u.cell? ⟨L.tb,j,none⟩=some ((iW L s)[j]'hj):=ht.c j _ (gK hj);have hf:=ht.f j;have R:=h (u.setCell ⟨L.tb,j,none⟩ v) (ht.set j v hL hc h0 h1' htb) ((Ch.refl _ _).jI _ _) (fun i hi=>World.cell?_setCell_other _ _ _ _ (by simp));have hs:(sizeOf ty).run prog u= .ok 1 u:=by
  cases hq:prog.info? ty with
  |none=>simp[hq]at hsz
  |some i=>
   have:i.size=1:=by simpa[hq]using hsz
   simp[sizeOf,typeInfo,hq,this]
 have hst:(storeVar ty ⟨L.tb,j,none⟩ v).run prog u= .ok () (u.setCell ⟨L.tb,j,none⟩ v):=by
  have e0:∀i,i<[v].length→i=0:=fun i hi=>by simpa using hi
  have h2:=run_storeCells_cells (P:=prog) L.tb j [v] 0 u (fun i hi=>by rw[e0 i hi,wT,hc0];rfl) (fun i hi=>by rw[e0 i hi];exact hf) (fun z hz=>by rw[iM]at hz;rw[hz];exact h1);simp only[storeVar,kN,hs,kM,hv,Sem.run_ite];simpa[World.setCells]using h2
 unfold Oper.wp execOp;simp only[ho,hx,hy,Instr.storeAt,Instr.sureAddr,kN,qg,kM,hst];rw[Oper.upon_skip,hd];exact R
theorem Pv(L:Lay)(s:TS)(w:World)(ht:a_ w L s)(hi:s.Inv)(n:Int)(hn:0≤n∧n≤70000):Calls prog 179 #[.pointer (some ⟨L.tb,0,none⟩),.int .i64 n] w fun e w'=>e= .returned (.tuple #[])∧a_ w' L (s.sink n)∧Ch L.own w w':=by
 have c26:=ht.c 26 _ rfl;have c39:=ht.c 39 _ rfl;have f26:=ht.f 26;have hr0:=hi.row0;have hr1:=hi.iT;have hr2:=hi.r2;have l1:=kT L s w ht hi;have v1:IntKind.i64.wrap (s.row+n)=s.row+n:=bV _ (by omega);have hX:s.sink n= {s with row:=min (s.row+n) (if s.row≤s.bottom then s.bottom else(s.rows:Int)-1)}:=rfl;generalize s.sink n=X at*;have HX:Hid _:=hX;have HT:Hid _:=ht;clear ht hX hi;by_cases hq:s.row≤s.bottom
 ·rw[aS hq]at HX;go_enter func179,ntmps179;go_wp2_with (go_at_call 138;refine l1.mono ?_;rintro e w1 ⟨rfl,rfl⟩);go_quiet (fail);go_wp2_with fail
  all_goals go_end0
  all_goals refine⟨rfl,?_,((Ch.refl _ _).drewN _).jI _ _⟩
  all_goals rw[HX.o]
  all_goals refine(HT.o.drewN _).set 26 _ ?_ rfl rfl rfl rfl
  ·rw[Int.min_eq_right (by omega)];rfl
  ·rw[Int.min_eq_left (by omega)];rfl
 ·rw[aG hq]at HX;have dq:decide (s.row≤s.bottom)=false:=by simp[hq]
  go_enter func179,ntmps179;go_wp2_with (go_at_call 138;refine l1.mono ?_;rintro e w1 ⟨rfl,rfl⟩);go_quiet (fail);go_wp2_with fail
  all_goals go_end0
  all_goals refine⟨rfl,?_,((Ch.refl _ _).drewN _).jI _ _⟩
  all_goals rw[HX.o]
  all_goals refine(HT.o.drewN _).set 26 _ ?_ rfl rfl rfl rfl
  ·rw[Int.min_eq_right (by omega)];rfl
  ·rw[Int.min_eq_left (by omega)];rfl
theorem kL(L:Lay)(s:TS)(w:World)(ht:a_ w L s)(hi:s.Inv)(r:Int)(hr: -10≤r∧r≤70000):Calls prog 180 #[.pointer (some ⟨L.tb,0,none⟩),.int .i64 r] w fun e w'=>e= .returned (.tuple #[])∧a_ w' L (s.aW r)∧Ch L.own w w':=by
 have c37:=ht.c 37 _ rfl;have hX:s.aW r=if s.origin then{s with row:=TS.bn (s.top+r) s.top s.bottom} else s.kX r:=rfl;generalize s.aW r=X at*;have h1:=hi.gN;have h2:=hi.tb;have h3:=hi.bot;have h4:=hi.r2;have v1:IntKind.i64.wrap (s.top+r)=s.top+r:=bV _ (by omega);cases ho:s.origin with
 |true=>rw[ho]at c37;rw[aS ho]at hX;have HX:Hid _:=hX;have HT:Hid _:=ht;clear ht hX hi ho;go_enter func180,ntmps180;go_wp2_with fail;have HT0:a_ ({w with drawn:=w.drawn+1}:World) L s:=HT.o.sm ((Ch.refl _ _).drewN 1);have HH:World.cell? ({w with drawn:=w.drawn+1}:World) ⟨L.tb,38,none⟩=some (.int .i64 s.top)∧World.cell? ({w with drawn:=w.drawn+1}:World) ⟨L.tb,39,none⟩=some (.int .i64 s.bottom):=⟨HT0.c 38 _ rfl,HT0.c 39 _ rfl⟩;refine fJ (S:=fun x=>x.cell? ⟨L.tb,38,none⟩=some (.int .i64 s.top)∧x.cell? ⟨L.tb,39,none⟩=some (.int .i64 s.bottom)) bI ?_;refine aL 0 1 2 3 HH ?_;simp only[ah,ag];refine iC 4 5 6 HH ?_;refine ak 7 HH ?_ (v:=.int .i64 (s.top+r));simp only[ah,ag];refine aL 8 9 10 11 HH ?_;simp only[ah,ag];refine aL 12 13 14 15 HH ?_;simp only[ah,ag];refine g_ 16 17 HH ?_;simp only[ah,ag];refine wpAnyH_all (rs:=[18]) (by kernel_rfl) (by simp) ?_;intro i hi;rw[iM]at hi;subst hi;refine gW ?_;refine d_ (vs:=[.int .i64 (s.top+r),.int .i64 s.top,.int .i64 s.bottom]) (oH _ _ _ _) ?_;rintro v2 w1 ⟨rfl,rfl⟩;refine⟨HH,?_⟩;simp only[ah,ag];refine aL 19 20 21 22 HH ?_;simp only[ah,ag];refine wpAnyH_all (rs:=[23]) (by kernel_rfl) (by simp) ?_;intro i hi;rw[iM]at hi;subst hi;refine gW ?_;refine zS 3 vL (.tmp 32) (.tmp 28) rfl rfl L s X 26 (.int .i64 (TS.bn (s.top+r) s.top s.bottom)) rfl rfl rfl rfl HT0 (by omega) (by rw[HX.o];rfl) (by rw[HX.o]) (by rw[HX.o]) (by rw[HX.o]) (by rw[HX.o]) ?_;intro u' ht' qx hcell;refine⟨⟨(hcell 38 (by omega)).trans HH.1,(hcell 39 (by omega)).trans HH.2⟩,?_⟩;clear HH hcell;refine aM ?_;have HF:Hid (a_ u' L X∧Ch L.own w u'):=⟨ht',⟨qx.os,qx.tape,qx.output,qx.size,qx.block⟩⟩;clear ht' qx HT0;go_wp2_with fail;go_end0;exact⟨rfl,HF.o.1,HF.o.2⟩
 |false=>rw[ho]at c37;rw[aG (by rw[ho];simp)]at hX;have l1:=wM L s w ht hi r;have HX:Hid _:=hX;clear ht hX hi ho;go_enter func180,ntmps180;go_wp2_with (go_at_call 172;refine l1.mono ?_;rintro e w1 ⟨rfl,h1,c1⟩);go_end0;exact⟨rfl,by rw[HX.o];exact h1,c1⟩
theorem TS.Inv.upd{t:TS}(h:s.Inv)(e1:t.rows=s.rows)(e2:t.aa=s.aa)(e3:t.s0=s.s0)(e4:t.s1=s.s1)(e5:t.tabs=s.tabs)(e6:t.v0=s.v0)(e7:t.v1=s.v1)(r0:0≤t.row)(r1:t.row<(s.rows:Int))(c0:0≤t.col)(c1:t.col<(s.aa:Int))(t0:0≤t.top)(t1:t.top≤t.bottom)(t2:t.bottom<(s.rows:Int))(sh:t.shown=0∨t.shown=1):t.Inv:=
 ⟨e1▸h.r1,e1▸h.r2,e2▸h.c1,e2▸h.c2,r0,by rw[e1];exact r1,c0,by rw[e2];exact c1,t0,t1,by rw[e1];exact t2,sh,by rw[e3,e1];exact h.l0,by rw[e4,e1];exact h.l1,by rw[e5,e2];exact h.lt,
  by rw[e6,e1];exact h.VR,by rw[e6,e2];exact h.VQ,by rw[e7,e1];exact h.VT,by rw[e7,e2];exact h.VS⟩
theorem TS.Inv.bD(h:s.Inv)(c:Int):(s.bD c).Inv:=
 h.upd rfl rfl rfl rfl rfl rfl rfl h.row0 h.iT (by show 0≤TS.bn _ _ _;unfold TS.bn;have:=h.c1;omega) (by show TS.bn _ _ _<_;unfold TS.bn;have:=h.c1;omega) h.gN h.tb h.bot h.sh
theorem TS.Inv.kX(h:s.Inv)(c:Int):(s.kX c).Inv:=
 h.upd rfl rfl rfl rfl rfl rfl rfl (by show 0≤TS.bn _ _ _;unfold TS.bn;have:=h.r1;omega) (by show TS.bn _ _ _<_;unfold TS.bn;have:=h.r1;omega) h.fU h.gz h.gN h.tb h.bot h.sh
theorem TS.Inv.aW(h:s.Inv)(c:Int):(s.aW c).Inv:=by
 unfold TS.aW;split
 ·exact h.upd rfl rfl rfl rfl rfl rfl rfl (by show 0≤TS.bn _ _ _;unfold TS.bn;have:=h.gN;omega) (by show TS.bn _ _ _<_;unfold TS.bn;have:=h.tb;have:=h.bot;omega) h.fU h.gz h.gN h.tb h.bot h.sh
 ·exact h.kX c
theorem TS.Inv.rise(h:s.Inv)(n:Int)(hn:0≤n):(s.rise n).Inv:=
 h.upd rfl rfl rfl rfl rfl rfl rfl (by show 0≤max _ _;have:=h.gN;split<;>omega) (by show max _ _<_;have:=h.iT;have:=h.r1;split<;>omega) h.fU h.gz h.gN h.tb h.bot h.sh
theorem TS.Inv.sink(h:s.Inv)(n:Int)(hn:0≤n):(s.sink n).Inv:=
 h.upd rfl rfl rfl rfl rfl rfl rfl (by show 0≤min _ _;have:=h.row0;have:=h.gN;have:=h.tb;have:=h.r1;split<;>omega) (by show min _ _<_;have:=h.bot;have:=h.r1;split<;>omega) h.fU h.gz h.gN h.tb h.bot h.sh
theorem TS.Inv.aJ(h:s.Inv):s.aJ.Inv:=h.upd rfl rfl rfl rfl rfl rfl rfl h.row0 h.iT h.fU h.gz h.gN h.tb h.bot h.sh
theorem TS.Inv.home(h:s.Inv):s.home.Inv:=((h.aW 0).bD 0).aJ
theorem TS.Inv.fe(h:s.Inv)(n:Nat):(s.fe n).Inv:=h.setCur (by rw[t_];exact h.nW)
theorem TS.Inv.eG(h:s.Inv)(n:Nat):(s.eG n).Inv:=h.setCur (by rw[pK];exact h.nW)
theorem TS.Inv.down(h:s.Inv):s.down.Inv:=by
 unfold TS.down;split
 ·exact h.fe 1
 ·exact h.kX _
theorem TS.Inv.up(h:s.Inv):s.up.Inv:=by
 unfold TS.up;split
 ·exact h.eG 1
 ·exact h.kX _
theorem TS.Inv.aT(h:s.Inv):s.aT.Inv:=(h.bD 0).down
theorem TS.Inv.aI(h:s.Inv)(r:List aC):(s.aI r).Inv:=h.setCur (by rw[qB];exact h.nW)
theorem EB(L:Lay)(s:TS)(w:World)(ht:a_ w L s)(hi:s.Inv):Calls prog 192 #[.pointer (some ⟨L.tb,0,none⟩)] w fun e w'=>e= .returned (.tuple #[])∧a_ w' L s.home∧Ch L.own w w':=by have l1:=kL L s w ht hi 0 (by omega);have l2:∀u,a_ u L (s.aW 0)→_:=fun u hu=>eO L (s.aW 0) u hu (hi.aW 0) 0;clear ht;go_enter func192,ntmps192;go_wp2_with (first|(go_at_call 180;refine l1.mono ?_;rintro e w1 ⟨rfl,h1,c1⟩)|(go_at_call 127;refine(l2 _ h1).mono ?_;rintro e w2 ⟨rfl,h2,c2⟩;have c28:=h2.c 28 _ rfl;have f28:=h2.f 28));go_end0;exact⟨rfl,h2.set 28 _ rfl rfl rfl rfl rfl,(c1.trans c2).jI _ _⟩
theorem Bg(hi:s.Inv):s.top.toNat+s.height≤s.rows∧1≤s.height∧s.height≤s.rows-s.top.toNat:=by unfold TS.height;have:=hi.gN;have:=hi.tb;have:=hi.bot;omega
theorem Ee(hi:s.Inv)(h:s.row≤s.bottom):s.row.toNat+s.below≤s.rows∧1≤s.below∧s.below≤s.rows-s.row.toNat:=by unfold TS.below;have:=hi.row0;have:=hi.bot;omega
theorem Ey{w':World}(c:Ch (· ∈L.gs s) w w'):Ch L.own w w':=c.mono (fun _ _ h=>Lay.mO h)
theorem own_drewN{m:Nat}:Ch L.own w (w.drewN m):=(Ch.refl _ _).drewN m
theorem uU(L:Lay)(s:TS)(u:World)(ht:a_ u L s)(hi:s.Inv)(n:Nat)(hn:1≤n∧n≤70000):Calls prog 171 #[.slice (some ⟨L.sb s,s.top.toNat,none⟩) s.height (s.rows-s.top.toNat),.int .i64 (n:Int)] u fun e w'=>e= .returned (.tuple #[])∧a_ w' L (s.fe n)∧Ch L.own u w':=by obtain⟨h1,h2,h3⟩:=Bg hi;have:=hi.r2;have:=hi.c2;exact(Qa (L.sb s) s.top.toNat s.height n (s.rows-s.top.toNat) s.aa (L.gs s) s.cur u ht.cur (by rw[hi.nW];exact h1) h2 (by omega) hn.2 hn.1 (by omega) h3).mono fun e w' h=>⟨h.1,ht.setCur h.2.2 h.2.1,Ey h.2.2⟩
theorem rz(L:Lay)(s:TS)(u:World)(ht:a_ u L s)(hi:s.Inv)(n:Nat)(hn:1≤n∧n≤70000):Calls prog 188 #[.slice (some ⟨L.sb s,s.top.toNat,none⟩) s.height (s.rows-s.top.toNat),.int .i64 (n:Int)] u fun e w'=>e= .returned (.tuple #[])∧a_ w' L (s.eG n)∧Ch L.own u w':=by obtain⟨h1,h2,h3⟩:=Bg hi;have:=hi.r2;have:=hi.c2;exact(En (L.sb s) s.top.toNat s.height n (s.rows-s.top.toNat) s.aa (L.gs s) s.cur u ht.cur (by rw[hi.nW];exact h1) h2 (by omega) hn.2 hn.1 (by omega) h3).mono fun e w' h=>⟨h.1,ht.setCur h.2.2 h.2.1,Ey h.2.2⟩
theorem o_(L:Lay)(s:TS)(w:World)(ht:a_ w L s)(hi:s.Inv):Calls prog 130 #[.pointer (some ⟨L.tb,0,none⟩)] w fun e w'=>e= .returned (.tuple #[])∧a_ w' L s.down∧Ch L.own w w':=by
 have c26:=ht.c 26 _ rfl;have c39:=ht.c 39 _ rfl;have hr0:=hi.row0;have hr1:=hi.iT;have hr2:=hi.r2;have v1:IntKind.i64.wrap (s.row+1)=s.row+1:=bV _ (by omega);have hX:s.down=if s.row=s.bottom then s.fe 1 else s.kX (s.row+1):=rfl;generalize s.down=X at*;have l1:∀m,_:=fun m=>pW L s (w.drewN m) (ht.drewN m) hi;have l2:∀m,_:=fun m=>uU L s (w.drewN m) (ht.drewN m) hi 1 (by omega);have l3:∀m,_:=fun m=>wM L s (w.drewN m) (ht.drewN m) hi (s.row+1);simp only[Int.natCast_one]at l2;by_cases hq:s.row=s.bottom
 ·rw[aS hq]at hX;have HX:Hid _:=hX;have bq:(s.row==s.bottom)=true:=by simp[hq]
  clear ht hX hi hq;go_enter func130,ntmps130;go_wp2_with fail;go_quiet (fail);go_wp2_with (first|(go_at_call 170;refine(l1 _).mono ?_;rintro e w1 ⟨rfl,m1,rfl⟩;rw[World.drewN_drewN])|(go_at_call 171;refine(l2 _).mono ?_;rintro e w2 ⟨rfl,h2,c2⟩));go_end0;exact⟨rfl,by rw[HX.o];exact h2,own_drewN.trans c2⟩
 ·rw[aG hq]at hX;have HX:Hid _:=hX;have bq:(s.row==s.bottom)=false:=by simp[hq]
  clear ht hX hi hq;go_enter func130,ntmps130;go_wp2_with fail;go_quiet (fail);go_wp2_with (go_at_call 172;refine(l3 _).mono ?_;rintro e w2 ⟨rfl,h2,c2⟩);go_end0;exact⟨rfl,by rw[HX.o];exact h2,own_drewN.trans c2⟩
theorem RV(L:Lay)(s:TS)(w:World)(ht:a_ w L s)(hi:s.Inv):Calls prog 175 #[.pointer (some ⟨L.tb,0,none⟩)] w fun e w'=>e= .returned (.tuple #[])∧a_ w' L s.up∧Ch L.own w w':=by
 have c26:=ht.c 26 _ rfl;have c38:=ht.c 38 _ rfl;have hr0:=hi.row0;have hr1:=hi.iT;have hr2:=hi.r2;have v1:IntKind.i64.wrap (s.row-1)=s.row-1:=bV _ (by omega);have hX:s.up=if s.row=s.top then s.eG 1 else s.kX (s.row-1):=rfl;generalize s.up=X at*;have l1:∀m,_:=fun m=>pW L s (w.drewN m) (ht.drewN m) hi;have l2:∀m,_:=fun m=>rz L s (w.drewN m) (ht.drewN m) hi 1 (by omega);have l3:∀m,_:=fun m=>wM L s (w.drewN m) (ht.drewN m) hi (s.row-1);simp only[Int.natCast_one]at l2;by_cases hq:s.row=s.top
 ·rw[aS hq]at hX;have HX:Hid _:=hX;have bq:(s.row==s.top)=true:=by simp[hq]
  clear ht hX hi hq;go_enter func175,ntmps175;go_wp2_with fail;go_quiet (fail);go_wp2_with (first|(go_at_call 170;refine(l1 _).mono ?_;rintro e w1 ⟨rfl,m1,rfl⟩;rw[World.drewN_drewN])|(go_at_call 188;refine(l2 _).mono ?_;rintro e w2 ⟨rfl,h2,c2⟩));go_end0;exact⟨rfl,by rw[HX.o];exact h2,own_drewN.trans c2⟩
 ·rw[aG hq]at hX;have HX:Hid _:=hX;have bq:(s.row==s.top)=false:=by simp[hq]
  clear ht hX hi hq;go_enter func175,ntmps175;go_wp2_with fail;go_quiet (fail);go_wp2_with (go_at_call 172;refine(l3 _).mono ?_;rintro e w2 ⟨rfl,h2,c2⟩);go_end0;exact⟨rfl,by rw[HX.o];exact h2,own_drewN.trans c2⟩
theorem pU(L:Lay)(s:TS)(w:World)(ht:a_ w L s)(hi:s.Inv):Calls prog 122 #[.pointer (some ⟨L.tb,0,none⟩)] w fun e w'=>e= .returned (.tuple #[])∧a_ w' L s.aT∧Ch L.own w w':=by have l1:=eO L s w ht hi 0;have l2:∀u,a_ u L (s.bD 0)→_:=fun u hu=>o_ L (s.bD 0) u hu (hi.bD 0);clear ht;go_enter func122,ntmps122;go_wp2_with (first|(go_at_call 127;refine l1.mono ?_;rintro e w1 ⟨rfl,h1,c1⟩)|(go_at_call 130;refine(l2 _ h1).mono ?_;rintro e w2 ⟨rfl,h2,c2⟩));go_end0;exact⟨rfl,h2,c1.trans c2⟩
theorem FZ(tabs:List Bool)(k:Nat)(h:tabs[k]? =some true):TS.iK tabs k=(k:Int):=by have hl:=(ja.1 h);obtain⟨hl,hv⟩:=hl;unfold TS.iK;rw[←List.getElem_cons_drop hl,hv,List.findIdx?_cons];simp
theorem Dp(tabs:List Bool)(k:Nat)(h:tabs[k]? =some false):TS.iK tabs k=TS.iK tabs (k+1):=by
 obtain⟨hl,hv⟩:=(ja.1 h);unfold TS.iK;rw[←List.getElem_cons_drop hl,hv,List.findIdx?_cons];cases (List.drop (k+1) tabs).findIdx? id with
 |none=>rfl
 |some i=>simp;omega
theorem FY(tabs:List Bool)(k:Nat)(h:tabs.length≤k):TS.iK tabs k=(tabs.length:Int)-1:=by unfold TS.iK;rw[yj h];rfl
theorem EN(L:Lay)(s:TS)(w:World)(ht:a_ w L s)(hi:s.Inv):Calls prog 129 #[.pointer (some ⟨L.tb,0,none⟩)] w fun e w'=>e= .returned (.tuple #[])∧a_ w' L s.lW∧Ch L.own w w':=by
 have c27:=ht.c 27 _ rfl;have c43:=ht.c 43 _ rfl;obtain⟨cc,hcc⟩:∃cc:Nat,s.col=(cc:Int):=⟨s.col.toNat,by have:=hi.fU;omega⟩;have hcl:cc<s.aa:=by have:=hi.gz;omega
 have hc2:=hi.c2;have hlt:=hi.lt;rw[hcc]at c27;have hX:s.lW=s.bD (TS.iK s.tabs (cc+1)):=by unfold TS.lW;rw[hcc,wQ]
 generalize s.lW=X at*;have HX:Hid _:=hX;have HT:Hid _:=ht;have HI:Hid s.Inv:=hi;have v1:IntKind.i64.wrap ((cc:Int)+1)=(cc:Int)+1:=bV _ (by omega);clear hX ht hi hcc;go_enter func129,ntmps129;go_wp2_with fail;go_loopw [2] (fun i wr=>∃k:Nat,k≤s.aa∧i= .int .i64 k∧Hid (TS.iK s.tabs k=TS.iK s.tabs (cc+1))∧wr=w) (fun i _=>s.aa-(intOf i).toNat)
 case atStart=>exact⟨cc+1,by omega,by go_num,rfl,rfl⟩
 case round=>
  obtain⟨k,hk,rfl,hno,rfl⟩:=hrel;by_cases hlt2:k<s.aa
  ·have ik:(k:Int)<(s.aa:Int):=by omega
   have hkt:k<s.tabs.length:=by omega
   have hcell:wr.cell? ⟨L.gb,k,none⟩=some (.bool s.tabs[k]):=by rw[dJ _ _ _ _ _ _ HT.o.tab];simp[hkt]
   have vk:IntKind.i64.wrap ((k:Int)+1)=(k:Int)+1:=bV _ (by omega);cases hb:s.tabs[k]with
   |true=>rw[hb]at hcell;have e1:=FZ s.tabs k (by rw[gK hkt,hb]);have HE:Hid _:=hno.o.symm.trans e1;clear e1 hno hb;go_wp2_with (go_at_call 127;refine(eO L s wr HT.o HI.o k).mono ?_;rintro e w1 ⟨rfl,h1,c1⟩);exact gL (lF results129 _ _ _) rfl ⟨rfl,by rw[HX.o,HE.o];exact h1,c1⟩
   |false=>
    rw[hb]at hcell;have e1:=Dp s.tabs k (by rw[gK hkt,hb]);have HE:Hid (TS.iK s.tabs (k+1)=TS.iK s.tabs (cc+1)):=e1.symm.trans hno.o;clear e1 hno hb;go_wp2_with fail;go_roundw
    case rel=>exact⟨k+1,by omega,by go_num,HE,trivial⟩
    case measure=>simp[intOf];omega
  ·have hkn:k=s.aa:=by omega
   have e1:=FY s.tabs k (by omega);have HE:Hid (TS.iK s.tabs (cc+1)=(s.aa:Int)-1):=by rw[←hno.o,e1,hlt];exact rfl
   subst hkn;clear e1 hno;go_wp2_with (first|(go_at_call 128;refine(jE L s wr HT.o HI.o).mono ?_;rintro e w1 ⟨rfl,rfl⟩)|(go_at_call 127;refine(eO L s _ HT.o HI.o ((s.aa:Int)-1)).mono ?_;rintro e w2 ⟨rfl,h1,c1⟩));go_end0;exact⟨rfl,by rw[HX.o,HE.o];exact h1,c1⟩
theorem uw(f b:Int)(w:World):Calls prog 132 #[.int .i64 f,.int .i64 b] w fun e w'=>e= .returned (.int .i64 (TS.dB f b))∧w'=w:=by
 by_cases h1:f=66
 ·subst h1;go_enter func132,ntmps132;go_wp2_with fail;go_ret;exact⟨rfl,rfl⟩
 ·by_cases h2:f=48
  ·subst h2;go_enter func132,ntmps132;go_wp2_with fail;go_ret;exact⟨rfl,rfl⟩
  ·have e:TS.dB f b=b:=by unfold TS.dB;rw[aG h1,aG h2]
   rw[e];have b1:(f==66)=false:=by simp[h1]
   have b2:(f==48)=false:=by simp[h2]
   clear e h1 h2;go_enter func132,ntmps132;go_wp2_with fail;go_ret;exact⟨rfl,rfl⟩
theorem Em(L:Lay)(s:TS)(w:World)(ht:a_ w L s)(hi:s.Inv)(c:Int):Calls prog 78 #[.pointer (some ⟨L.tb,0,none⟩),.int .i64 c] w fun e w'=>e= .returned (.tuple #[])∧a_ w' L (s.control c)∧Ch L.own w w':=by
 have c28:=ht.c 28 _ rfl;have f28:=ht.f 28;have HT:Hid _:=ht;have hu:=ht.set (s':=s.aJ) 28 (.bool false) rfl rfl rfl rfl rfl;have HU:Hid _:=hu;have HI:Hid s.Inv:=hi;have d27:=hu.c 27 _ rfl;have d36:=ht.c 36 _ rfl;have g36:=ht.f 36;have YZ:=hi.fU;have Y0:=hi.gz;have hc2:=hi.c2;have CU:Hid (Ch L.own w (w.setCell ⟨L.tb,28,none⟩ (.bool false))):=(Ch.refl _ _).jI _ _;clear ht hu hi;rcases(show c=8∨c=9∨c=10∨c=11∨c=12∨c=13∨c=14∨c=15∨(c<8∨15<c) by omega)with rfl|rfl|rfl|rfl|rfl|rfl|rfl|rfl|hc
 ·rw[show s.control 8=s.aJ.bD (s.col-1) from rfl];have v1:IntKind.i64.wrap (s.aJ.col-1)=s.col-1:=bV _ (by show _≤s.col-1∧s.col-1≤_;omega);go_enter func78,ntmps78;go_wp2_with (go_at_call 127;refine(eO L s.aJ _ HU.o HI.o.aJ (s.col-1)).mono ?_;rintro e w1 ⟨rfl,h1,c1⟩);go_end0;exact⟨rfl,h1,CU.o.trans c1⟩
 ·rw[show s.control 9=s.aJ.lW from rfl];go_enter func78,ntmps78;go_wp2_with (go_at_call 129;refine(EN L s.aJ _ HU.o HI.o.aJ).mono ?_;rintro e w1 ⟨rfl,h1,c1⟩);go_end0;exact⟨rfl,h1,CU.o.trans c1⟩
 ·rw[show s.control 10=s.aJ.down from rfl];go_enter func78,ntmps78;go_wp2_with (go_at_call 130;refine(o_ L s.aJ _ HU.o HI.o.aJ).mono ?_;rintro e w1 ⟨rfl,h1,c1⟩);go_end0;exact⟨rfl,h1,CU.o.trans c1⟩
 ·rw[show s.control 11=s.aJ.down from rfl];go_enter func78,ntmps78;go_wp2_with (go_at_call 130;refine(o_ L s.aJ _ HU.o HI.o.aJ).mono ?_;rintro e w1 ⟨rfl,h1,c1⟩);go_end0;exact⟨rfl,h1,CU.o.trans c1⟩
 ·rw[show s.control 12=s.aJ.down from rfl];go_enter func78,ntmps78;go_wp2_with (go_at_call 130;refine(o_ L s.aJ _ HU.o HI.o.aJ).mono ?_;rintro e w1 ⟨rfl,h1,c1⟩);go_end0;exact⟨rfl,h1,CU.o.trans c1⟩
 ·rw[show s.control 13=s.aJ.bD 0 from rfl];go_enter func78,ntmps78;go_wp2_with (go_at_call 127;refine(eO L s.aJ _ HU.o HI.o.aJ 0).mono ?_;rintro e w1 ⟨rfl,h1,c1⟩);go_end0;exact⟨rfl,h1,CU.o.trans c1⟩
 ·rw[show s.control 14= {s with use:=1} from rfl];go_enter func78,ntmps78;go_wp2_with fail;go_end0;exact⟨rfl,HT.o.set 36 _ rfl rfl rfl rfl rfl,(Ch.refl _ _).jI _ _⟩
 ·rw[show s.control 15= {s with use:=0} from rfl];go_enter func78,ntmps78;go_wp2_with fail;go_end0;exact⟨rfl,HT.o.set 36 _ rfl rfl rfl rfl rfl,(Ch.refl _ _).jI _ _⟩
 ·have e:s.control c=s:=by unfold TS.control;simp only[aG (show¬(8≤c∧c≤13) by omega),aG (show¬c=8 by omega),aG (show¬c=9 by omega),aG (show¬(c=10∨c=11∨c=12) by omega),aG (show¬c=13 by omega),aG (show¬c=14 by omega),aG (show¬c=15 by omega)]
  rw[e];have b8:(c==8)=false:=by simp;omega
  have b9:(c==9)=false:=by simp;omega
  have b10:(c==10)=false:=by simp;omega
  have b11:(c==11)=false:=by simp;omega
  have b12:(c==12)=false:=by simp;omega
  have b13:(c==13)=false:=by simp;omega
  have b14:(c==14)=false:=by simp;omega
  have b15:(c==15)=false:=by simp;omega
  rcases hc with hc|hc
  ·have d8:decide (8≤c)=false:=by simp;omega
   clear e;go_enter func78,ntmps78;go_wp2_with fail;go_end0;exact⟨rfl,HT.o,Ch.refl _ _⟩
  ·have d8:decide (8≤c)=true:=by simp;omega
   have d8':8≤c:=by omega
   have d13:decide (c≤13)=false:=by simp;omega
   clear e;go_enter func78,ntmps78;go_wp2_with fail;go_end0;exact⟨rfl,HT.o,Ch.refl _ _⟩
theorem a_.range'(h:a_ w L s)(j:Nat)(cs:List Value)(hcs:((iW L s).drop j).take cs.length=cs):w.rangeAt L.tb j cs:=fun i v hv=>by
 refine h.c (j+i) v ?_;rw[←hcs]at hv;rw[qA]at hv;split at hv
 ·rwa[qC]at hv
 ·cases hv
theorem pG{o:Nat}{vs cur:List Value}(h:w.heap[b]? =some (.cells cur.toArray t (0,0)))(hl:o+vs.length≤cur.length):
 (w.setCells b o vs).heap[b]? =some (.cells (cur.take o++(vs++cur.drop (o+vs.length))).toArray t (0,0)):=by
 obtain⟨cs',q1,q2,q3⟩:=og b vs o w cur.toArray t h;rw[q1]
 congr 2
 apply Array.ext_getElem?;intro i;rw[q3,AA,AA,List.size_toArray];by_cases hi:o≤i∧i<o+vs.length∧i<cur.length
 ·rw[aS hi,wP (by rw[jJ];omega),jJ,show min o cur.length=o by omega,DK (by omega)]
 ·rw[aG hi];by_cases h1:i<o
  ·rw[DK (by rw[jJ];omega),qA,aS h1]
  ·rw[wP (by rw[jJ];omega),jJ,show min o cur.length=o by omega];by_cases h2:i<o+vs.length
   ·omega
   ·rw[wP (by omega),qC,show o+vs.length+(i-o-vs.length)=i by omega]
theorem A9{o n:Nat}{cur:List Value}(h:w.heap[b]? =some (.cells cur.toArray t (0,0)))(hl:o+n≤cur.length):w.there b o n:=fun j hj=>⟨by rw[dJ _ _ _ _ _ _ h];simp[show o+j<cur.length by omega],ou _ _ _ _ _ h⟩
theorem a_.sets{s':TS}(h:a_ w L s)(j:Nat)(cs:List Value)(hl:j+cs.length≤44)(hj:(iW L s).take j++(cs++(iW L s).drop (j+cs.length))=iW L s')(hc:s'.aa=s.aa)(h0:s'.s0=s.s0)(h1:s'.s1=s.s1)(ht:s'.tabs=s.tabs):
 a_ (w.setCells L.tb j cs) L s'∧Ch L.own w (w.setCells L.tb j cs):=by
 have hz:=size_setCells L.tb cs j w;have c:Ch (· =L.tb) w (w.setCells L.tb j cs):=⟨hz.2.1,hz.2.2.1,hz.2.2.2,by omega,fun i _ hn=>fV L.tb _ _ _ i hn⟩;exact⟨h.put (by rw[←hj];exact pG h.blk hl) c hc h0 h1 ht,c.mono fun k _ e=>.inl e⟩
theorem nk{o:Oper}{K:Act→World→Prop}(ty:TypeId)(x y:Operand)(ho:o.op= .store ty x y)(hd:o.dst=none)(L:Lay)(s s':TS)(j:Nat)(cs:List Value)(hsz:(prog.info? ty).map (·.size)=some cs.length)(hx:a.eval x= .pointer (some ⟨L.tb,j,none⟩))(hy:a.eval y= .agg cs.toArray)(h1:∀v∈cs,v.oneCell'=true)(ht:a_ u L s)(hl:j+cs.length≤44)(hL:(iW L s).take j++(cs++(iW L s).drop (j+cs.length))=iW L s')(hc:s'.aa=s.aa)(h0:s'.s0=s.s0)(h1':s'.s1=s.s1)(htb:s'.tabs=s.tabs)(h:∀u',a_ u' L s'→Ch L.own u u'→(∀i,i<j∨j+cs.length≤i→u'.cell? ⟨L.tb,i,none⟩=u.cell? ⟨L.tb,i,none⟩)→K a u'):Oper.wp prog o a u K Q:=by
 obtain⟨t1,c1⟩:=ht.sets j cs hl hL hc h0 h1' htb;refine wp_store_mid ty x y ho L.tb j cs.toArray hx hy (by simpa using A9 ht.blk hl) (by simpa using hsz) (all_oneCell_toArray h1) ?_;rw[hd];exact h _ (by simpa using t1) (by simpa using c1) (fun i hi=>by simpa using World.cell?_setCells_out L.tb cs j u ⟨L.tb,i,none⟩ (fun _ _=>hi))
theorem r_{ops:Array Oper}{rest:List Oper}{o:Oper}(hgd:o.guard=none)(ty:TypeId)(x y:Operand)(ho:o.op= .store ty x y)(hd:o.dst=none)(L:Lay)(s s':TS)(j:Nat)(cs:List Value)(hsz:(prog.info? ty).map (·.size)=some cs.length)(hx:a.eval x= .pointer (some ⟨L.tb,j,none⟩))(hy:a.eval y= .agg cs.toArray)(h1:∀v∈cs,v.oneCell'=true)(ht:a_ u L s)(hl:j+cs.length≤44)(hL:(iW L s).take j++(cs++(iW L s).drop (j+cs.length))=iW L s')(hc:s'.aa=s.aa)(h0:s'.s0=s.s0)(h1':s'.s1=s.s1)(htb:s'.tabs=s.tabs)(h:∀u',a_ u' L s'→Ch L.own u u'→wpList prog ops Q rest a u'):wpList prog ops Q (o::rest) a u:=
 sI hgd fun _ hK=>nk ty x y ho hd L s s' j cs hsz hx hy h1 ht hl hL hc h0 h1' htb (fun u' t1 c1 _=>hK _ _ (h u' t1 c1))
def aN (p:dQ):List Value:=[.int .i64 p.row,.int .i64 p.col,.bool p.waits,.bool p.pen.b,.bool p.pen.u,.bool p.pen.t,.int .i64 p.pen.f,.int .i64 p.pen.k,.int .i64 p.first,.int .i64 p.second,.int .i64 p.use,.bool p.origin]
theorem o7(p:dQ):∀v∈aN p,v.oneCell'=true:=by intro v hv;simp only[aN,di,eU,eX]at hv;rcases hv with rfl|rfl|rfl|rfl|rfl|rfl|rfl|rfl|rfl|rfl|rfl|rfl<;>rfl
theorem bL:(prog.info? 125).map (·.size)=some 12:=by kernel_rfl
theorem Pp(L:Lay)(s:TS)(w:World)(ht:a_ w L s)(hi:s.Inv):Calls prog 173 #[.pointer (some ⟨L.tb,0,none⟩)] w fun e w'=>e= .returned (.tuple #[])∧a_ w' L s.save∧Ch L.own w w':=by
 obtain⟨k,hk,hX⟩:∃k:Nat,(if s.shown=0 then 0 else 13)=k∧((k=0∧s.save= {s with v0:=s.spot})∨(k=13∧s.save= {s with v1:=s.spot})):=by
  by_cases h:s.shown=0
  ·exact⟨0,by rw[aS h],.inl ⟨rfl,by unfold TS.save;rw[aS h]⟩⟩
  ·exact⟨13,by rw[aG h],.inr ⟨rfl,by unfold TS.save;rw[aG h]⟩⟩
 generalize s.save=X at*;have HX:Hid _:=hX;have HT:Hid _:=ht;have HT0:a_ ({w with drawn:=w.drawn+1}:World) L s:=HT.o.sm ((Ch.refl _ _).drewN 1);have l1:=mg L s ({w with drawn:=w.drawn+1}:World) HT0 hi;rw[hk]at l1;have HH:World.rangeAt ({w with drawn:=w.drawn+1}:World) L.tb 26 (aN s.spot):=HT0.range' 26 _ rfl;clear ht hX hi hk;go_enter func173,ntmps173;go_wp2_with fail;refine fJ (S:=fun x=>x.rangeAt L.tb 26 (aN s.spot)) bI ?_;refine aL 0 2 3 4 HH ?_;simp only[ah,ag];refine ak 5 HH ?_;simp only[ah,ag];refine ak 6 HH ?_ (v:=.agg (aN s.spot).toArray) (hy:=(ug (by rfl) 125 (.tmp 7) rfl L.tb 26 rfl (aN s.spot) _ (fun x h=>h) underlying125 rfl bL));simp only[ah,ag];refine aD 1 ?_;refine d_ (l1) ?_;rintro v2 w1 ⟨rfl,m1,rfl⟩;refine⟨HH,?_⟩;simp only[ah,ag];refine ak 7 HH ?_;refine ak 8 HH ?_ (v:=.pointer (some ⟨L.tb,k+1,none⟩));simp only[ah,ag];refine aD 9 ?_;rcases HX.o with⟨rfl,hX⟩|⟨rfl,hX⟩
 ·refine nk 125 (.tmp 10) (.tmp 8) rfl rfl L s X 1 (aN s.spot) bL rfl rfl (o7 _) (HT0.drewN m1) (by show 1+12≤44;omega) (by rw[hX];rfl) (by rw[hX]) (by rw[hX]) (by rw[hX]) (by rw[hX]) ?_;intro u' ht' qx hcell;refine⟨fun j v hv=>?_,?_⟩
  ·rw[hcell (26+j) (Or.inr (by show 1+12≤26+j;omega))];exact HH j v hv
  clear hcell;refine aM ?_;have HF:Hid (a_ u' L X∧Ch L.own w u'):=⟨ht',⟨qx.os,qx.tape,qx.output,qx.size,qx.block⟩⟩;clear ht' qx HT0 HH hX HX;go_wp2_with fail;go_end0;exact⟨rfl,HF.o.1,HF.o.2⟩
 ·refine nk 125 (.tmp 10) (.tmp 8) rfl rfl L s X 14 (aN s.spot) bL rfl rfl (o7 _) (HT0.drewN m1) (by show 14+12≤44;omega) (by rw[hX];rfl) (by rw[hX]) (by rw[hX]) (by rw[hX]) (by rw[hX]) ?_;intro u' ht' qx hcell;refine⟨fun j v hv=>?_,?_⟩
  ·rw[hcell (26+j) (Or.inr (by show 14+12≤26+j;omega))];exact HH j v hv
  clear hcell;refine aM ?_;have HF:Hid (a_ u' L X∧Ch L.own w u'):=⟨ht',⟨qx.os,qx.tape,qx.output,qx.size,qx.block⟩⟩;clear ht' qx HT0 HH hX HX;go_wp2_with fail;go_end0;exact⟨rfl,HF.o.1,HF.o.2⟩
end Go.Proofs.YtheibfffilomcabGreatDoor
