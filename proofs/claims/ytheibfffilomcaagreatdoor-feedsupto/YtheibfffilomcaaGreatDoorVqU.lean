import Derived.Test.YtheibfffilomcaaGreatDoorTmaU
import Derived.Test.YtheibfffilomcaaGreatDoorVoU
set_option linter.all false
set_option maxRecDepth 100000
set_option maxHeartbeats 4000000
namespace Go.Proofs.YtheibfffilomcaaGreatDoor
open Go.RowKit Go.Proofs.Tryz
theorem zg(v0 v1:Value)(fed:ByteArray)(done:Nat)(d:DT):rP v0 v1 fed done d=([.int .i64 (d.t.rows:Int),.int .i64 (d.t.ah:Int),.string fed,.int .i64 (done:Int)]++(xM d.t++(aT v0 d.t.v0++aT v1 d.t.v1)))++(d.tb.map Value.bool++[.int .i64 d.ids]):=by simp[rP]
theorem Tt(v0 v1:Value)(fed:ByteArray)(done:Nat)(d:DT)(k:Nat)(b:Bool)(h:d.tb[k]? =some b):(rP v0 v1 fed done d)[47+k]? =some (.bool b):=by
 have hk:k<d.tb.length:=(gJ.1 h).1;rw[zg,og (by simp[xM,aB,aT])];have e:47+k-([.int .i64 (d.t.rows:Int),.int .i64 (d.t.ah:Int),.string fed,.int .i64 (done:Int)]++(xM d.t++(aT v0 d.t.v0++aT v1 d.t.v1)):List Value).length=k:=by simp[xM,aB,aT]
 rw[e,qA (by simpa using hk),pW,h];rfl
theorem xh(v0 v1:Value)(fed:ByteArray)(done:Nat)(d:DT)(k:Nat)(b:Bool)(hk:k<d.tb.length):(rP v0 v1 fed done d).set (47+k) (.bool b)=rP v0 v1 fed done {d with tb:=d.tb.set k b}:=by
 rw[zg,CX _ _ (by simp[xM,aB,aT])];have e:47+k-([.int .i64 (d.t.rows:Int),.int .i64 (d.t.ah:Int),.string fed,.int .i64 (done:Int)]++(xM d.t++(aT v0 d.t.v0++aT v1 d.t.v1)):List Value).length=k:=by simp[xM,aB,aT]
 rw[e,List.set_append_left _ _ (by simpa using hk), ←List.map_set, ←zg v0 v1 fed done {d with tb:=d.tb.set k b}]
theorem YM:(prog.info? 84).map (·.size)=some 17:=by kernel_rfl
def wJ (c:Nat):Bool:=decide (0<c∧c % 8=0)
theorem Ae(tb:Nat)(v0 v1:Value)(fed:ByteArray)(done:Nat)(d:DT)(w:World)(ht:bR w tb v0 v1 fed done d)(htl:d.tb.length=40)(hc2:d.t.ah≤40)(hr2:d.t.rows≤12):Calls prog 49 #[.pointer (some ⟨tb,0,none⟩)] w fun e w'=>e= .returned (.tuple #[])∧∃v0' v1',bR w' tb v0' v1' fed done (DT.fresh d.t.rows d.t.ah d.ids)∧Ch (· =tb) w w':=by
 have c0:=ht.qH;have va:IntKind.i64.wrap ((d.t.rows:Int)-1)=(d.t.rows:Int)-1:=bD _ (by omega);have HT:Hid _:=ht;clear ht;go_enter func49,ntmps49;go_wp2_with (refine OE rfl 84 (.tmp 11) (.tmp 9) rfl rfl (v0':=v0) (v1':=v1) (kT:=fed) (done':=done) (d':={d with t:={TS.fresh d.t.rows d.t.ah with v0:=d.t.v0,v1:=d.t.v1}}) 4 (xM (TS.fresh d.t.rows d.t.ah)) YM rfl rfl (yL _) HT.o htl (by simp[xM,aB]) rfl HT.o.h0 HT.o.h1 ?_);intro u1 t1 k1;have HT1:Hid _:=t1;have kR:Hid _:=k1;clear t1 k1 c0 HT;go_wp2_with fail;go_loopw [2] (fun i wr=>∃(k:Nat) (T:List Bool),k≤40∧i= .int .i64 k∧T.length=40∧(∀j,j<k→T[j]? =some (wJ j))∧bR wr tb v0 v1 fed done {d with t:={TS.fresh d.t.rows d.t.ah with v0:=d.t.v0,v1:=d.t.v1},tb:=T}∧Ch (· =tb) w wr) (fun i _=>40-(intOf i).toNat)
 case atStart=>exact⟨0,d.tb,by omega,rfl,htl,fun j hj=>by omega,HT1.o,kR.o⟩
 case round=>
  clear HT1 kR;obtain⟨k,T,hk,rfl,hTl,hT,t,ch⟩:=hrel;have VR:Hid _:=hTl;have Ue:Hid _:=hT;have HT2:Hid _:=t;have Ms:Hid _:=ch;clear hTl hT t ch;by_cases hlt:k<40
  ·have ik:(k:Int)<40:=by omega
   have vk:IntKind.i64.wrap ((k:Int)+1)=(k:Int)+1:=bD _ (by omega)
   have HN:Hid (∀u,bR u tb v0 v1 fed done {({d with t:={TS.fresh d.t.rows d.t.ah with v0:=d.t.v0,v1:=d.t.v1},tb:=T}:DT)with tb:=T.set k (wJ k)}→Ch (· =tb) wr u→∃(k':Nat) (T:List Bool),k'≤40∧Value.int .i64 ((k:Int)+1)= .int .i64 k'∧T.length=40∧(∀j,j<k'→T[j]? =some (wJ j))∧bR u tb v0 v1 fed done {d with t:={TS.fresh d.t.rows d.t.ah with v0:=d.t.v0,v1:=d.t.v1},tb:=T}∧Ch (· =tb) w u):=fun u hu hc=>⟨k+1,T.set k (wJ k),by omega,by go_num,by rw[lG];exact VR.o,fun j hj=>by
    by_cases e:j=k
    ·subst e;rw[List.getElem?_set_self (by rw[VR.o];omega)]
    ·rw[List.getElem?_set_ne (fun h=>e h.symm)];exact Ue.o j (by omega),hu,Ms.o.trans hc⟩
   have hset:(rP v0 v1 fed done {d with t:={TS.fresh d.t.rows d.t.ah with v0:=d.t.v0,v1:=d.t.v1},tb:=T}).set (47+k) (.bool (wJ k))=rP v0 v1 fed done {({d with t:={TS.fresh d.t.rows d.t.ah with v0:=d.t.v0,v1:=d.t.v1},tb:=T}:DT)with tb:=T.set k (wJ k)}:=xh v0 v1 fed done {d with t:={TS.fresh d.t.rows d.t.ah with v0:=d.t.v0,v1:=d.t.v1},tb:=T} k (wJ k) (by show k<T.length;rw[VR.o];omega);have Jk:Hid _:=hset;have hjk:47+k<88:=by omega
   clear hset;by_cases q0:0<k
   ·have q0':(0:Int)<(k:Int):=by omega
    have e8:((k:Int) % 8==0)=wJ k:=by unfold wJ;rw[Bool.eq_iff_iff];simp;omega
    go_wp2_with (refine aS rfl 4 dZ (.tmp 27) (.tmp 24) rfl rfl {({d with t:={TS.fresh d.t.rows d.t.ah with v0:=d.t.v0,v1:=d.t.v1},tb:=T}:DT)with tb:=T.set k (wJ k)} (47+k) (.bool (wJ k)) rfl rfl rfl rfl HT2.o VR.o hjk Jk.o rfl rfl ?_);intro u3 t3 k3;go_wp2_with fail;go_roundw
    case rel=>exact HN.o u3 t3 k3
    case measure=>simp[intOf];omega
   ·have q0':decide ((0:Int)<(k:Int))=false:=by simp;omega
    have htf:wJ k=false:=by simp[wJ,q0]
    have HTF:Hid _:=htf;clear htf;go_wp2_with (refine aS rfl 4 dZ (.tmp 27) (.tmp 24) rfl rfl {({d with t:={TS.fresh d.t.rows d.t.ah with v0:=d.t.v0,v1:=d.t.v1},tb:=T}:DT)with tb:=T.set k (wJ k)} (47+k) (.bool (wJ k)) rfl (by rw[HTF.o];rfl) rfl rfl HT2.o VR.o hjk Jk.o rfl rfl ?_);intro u3 t3 k3;go_wp2_with fail;go_roundw
    case rel=>exact HN.o u3 t3 k3
    case measure=>simp[intOf];omega
  ·have ik:¬(k:Int)<40:=by omega
   obtain rfl:k=40:=by omega
   have hTT:T=(List.range 40).map fun c=>decide (0<c∧c % 8=0):=by
    apply List.ext_getElem?;intro j;by_cases hj:j<40
    ·rw[Ue.o j hj];simp[pW,List.getElem?_range hj,wJ]
    ·rw[wM (by rw[VR.o];omega),wM (by simp;omega)]
   have HTE:Hid _:=hTT;clear hTT;go_wp2_with fail;obtain⟨U,hU⟩:∃U,U=wr:=⟨_,rfl⟩;rw[←hU];have Xg:Hid (bR U tb v0 v1 fed done {d with t:={TS.fresh d.t.rows d.t.ah with v0:=d.t.v0,v1:=d.t.v1},tb:=T}):=by rw[hU];exact HT2.o
   have xm:Hid (Ch (· =tb) w U):=by rw[hU];exact Ms.o
   clear hU HT2 Ms;have HT0:bR ({U with drawn:=U.drawn+1}:World) tb v0 v1 fed done {d with t:={TS.fresh d.t.rows d.t.ah with v0:=d.t.v0,v1:=d.t.v1},tb:=T}:=Xg.o.sm ((Ch.refl _ _).drewN 1);have qC:∀u (e:DT) (a b:Value),e.t.rows=d.t.rows→e.t.ah=d.t.ah→bR u tb a b fed done e→u.cell? ⟨tb,0,none⟩=some (.int .i64 (d.t.rows:Int))∧u.cell? ⟨tb,1,none⟩=some (.int .i64 (d.t.ah:Int)):=fun u e a b e1 e2 hu=>⟨by rw[←e1];exact hu.qH,by rw[←e2];exact hu.gX⟩;have HH:=qC _ ({d with t:={TS.fresh d.t.rows d.t.ah with v0:=d.t.v0,v1:=d.t.v1},tb:=T}:DT) _ _ rfl rfl HT0;refine dX (S:=fun x=>x.cell? ⟨tb,0,none⟩=some (.int .i64 (d.t.rows:Int))∧x.cell? ⟨tb,1,none⟩=some (.int .i64 (d.t.ah:Int))) aX ?_;refine ay 0 1 2 3 HH ?_;simp only[ag,af];refine ay 4 5 6 7 HH ?_;simp only[ag,af];refine dH 8 10 11 HH ?_;simp only[ag,af];refine av 9 ?_;refine a_ (vs:=[.int .i64 (d.t.rows:Int),.int .i64 (d.t.ah:Int)]) (R:=fun v w'=>∃v',v= .agg (aT v' aY).toArray∧ShR w' 0 v' (List.replicate d.t.rows (List.replicate d.t.ah aM))∧Below U.heap.size U w') ((Dx d.t.rows d.t.ah _ (by omega) (by omega)).mono fun e w' h=>by obtain⟨v',h1,h2,h3⟩:=h;exact⟨_,h1,v',rfl,h2,⟨h3.os,h3.tape,h3.output,h3.size,h3.block⟩⟩) ?_;rintro v2 w1 ⟨x0,rfl,hS0,b1⟩;have ht1:bR w1 tb v0 v1 fed done {d with t:={TS.fresh d.t.rows d.t.ah with v0:=d.t.v0,v1:=d.t.v1},tb:=T}:=Xg.o.sm (Ch.of_below b1);refine⟨qC _ ({d with t:={TS.fresh d.t.rows d.t.ah with v0:=d.t.v0,v1:=d.t.v1},tb:=T}:DT) _ _ rfl rfl ht1,?_⟩;have Cy:=qC _ ({d with t:={TS.fresh d.t.rows d.t.ah with v0:=d.t.v0,v1:=d.t.v1},tb:=T}:DT) _ _ rfl rfl ht1;simp only[ag,af];refine aj 12 Cy ?_ (v:=.pointer (some ⟨tb,21,none⟩));simp only[ag,af];have hv1:x0.oneCell'=true:=by obtain⟨a,c,e,_⟩:=hS0;rw[e];rfl
   refine av 13 ?_;refine gN 87 (.tmp 40) (.tmp 37) rfl rfl (v0':=x0) (v1':=v1) (kT:=fed) (done':=done) (d':={d with t:={TS.fresh d.t.rows d.t.ah with v0:=aY,v1:=d.t.v1},tb:=T,d0:=List.replicate d.t.rows (List.replicate d.t.ah aM)}) 21 (aT x0 aY) jP rfl rfl (j5 hv1 _) ht1 VR.o (by simp[aT,aB]) rfl hS0 ht1.h1 ?_;intro u2 t2 c2;refine⟨qC _ ({d with t:={TS.fresh d.t.rows d.t.ah with v0:=aY,v1:=d.t.v1},tb:=T,d0:=List.replicate d.t.rows (List.replicate d.t.ah aM)}:DT) _ _ rfl rfl t2,?_⟩;refine aC ?_;have HT3:Hid _:=t2;have yX:Hid (Ch (· =tb) w u2):=xm.o.trans ((Sm.ch (Ch.of_below b1)).trans c2);clear t2 c2 b1 hS0 ht1 HH Cy HT0 Xg xm qC;go_wp2_with fail;obtain⟨U,hU⟩:∃U,U=u2:=⟨_,rfl⟩;rw[←hU];have Xg:Hid (bR U tb x0 v1 fed done {d with t:={TS.fresh d.t.rows d.t.ah with v0:=aY,v1:=d.t.v1},tb:=T,d0:=List.replicate d.t.rows (List.replicate d.t.ah aM)}):=by rw[hU];exact HT3.o
   have xm:Hid (Ch (· =tb) w U):=by rw[hU];exact yX.o
   clear hU HT3 yX;have HT0:bR ({U with drawn:=U.drawn+1}:World) tb x0 v1 fed done {d with t:={TS.fresh d.t.rows d.t.ah with v0:=aY,v1:=d.t.v1},tb:=T,d0:=List.replicate d.t.rows (List.replicate d.t.ah aM)}:=Xg.o.sm ((Ch.refl _ _).drewN 1);have qC:∀u (e:DT) (a b:Value),e.t.rows=d.t.rows→e.t.ah=d.t.ah→bR u tb a b fed done e→u.cell? ⟨tb,0,none⟩=some (.int .i64 (d.t.rows:Int))∧u.cell? ⟨tb,1,none⟩=some (.int .i64 (d.t.ah:Int)):=fun u e a b e1 e2 hu=>⟨by rw[←e1];exact hu.qH,by rw[←e2];exact hu.gX⟩;have HH:=qC _ ({d with t:={TS.fresh d.t.rows d.t.ah with v0:=aY,v1:=d.t.v1},tb:=T,d0:=List.replicate d.t.rows (List.replicate d.t.ah aM)}:DT) _ _ rfl rfl HT0;refine dX (S:=fun x=>x.cell? ⟨tb,0,none⟩=some (.int .i64 (d.t.rows:Int))∧x.cell? ⟨tb,1,none⟩=some (.int .i64 (d.t.ah:Int))) aX ?_;refine ay 0 1 2 3 HH ?_;simp only[ag,af];refine ay 4 5 6 7 HH ?_;simp only[ag,af];refine dH 8 10 11 HH ?_;simp only[ag,af];refine av 9 ?_;refine a_ (vs:=[.int .i64 (d.t.rows:Int),.int .i64 (d.t.ah:Int)]) (R:=fun v w'=>∃v',v= .agg (aT v' aY).toArray∧ShR w' 0 v' (List.replicate d.t.rows (List.replicate d.t.ah aM))∧Below U.heap.size U w') ((Dx d.t.rows d.t.ah _ (by omega) (by omega)).mono fun e w' h=>by obtain⟨v',h1,h2,h3⟩:=h;exact⟨_,h1,v',rfl,h2,⟨h3.os,h3.tape,h3.output,h3.size,h3.block⟩⟩) ?_;rintro v2 w1 ⟨x1,rfl,hS1,b1⟩;have ht1:bR w1 tb x0 v1 fed done {d with t:={TS.fresh d.t.rows d.t.ah with v0:=aY,v1:=d.t.v1},tb:=T,d0:=List.replicate d.t.rows (List.replicate d.t.ah aM)}:=Xg.o.sm (Ch.of_below b1);refine⟨qC _ ({d with t:={TS.fresh d.t.rows d.t.ah with v0:=aY,v1:=d.t.v1},tb:=T,d0:=List.replicate d.t.rows (List.replicate d.t.ah aM)}:DT) _ _ rfl rfl ht1,?_⟩;have Cy:=qC _ ({d with t:={TS.fresh d.t.rows d.t.ah with v0:=aY,v1:=d.t.v1},tb:=T,d0:=List.replicate d.t.rows (List.replicate d.t.ah aM)}:DT) _ _ rfl rfl ht1;simp only[ag,af];refine aj 12 Cy ?_ (v:=.pointer (some ⟨tb,34,none⟩));simp only[ag,af];have hv1:x1.oneCell'=true:=by obtain⟨a,c,e,_⟩:=hS1;rw[e];rfl
   refine av 13 ?_;refine gN 87 (.tmp 53) (.tmp 50) rfl rfl (v0':=x0) (v1':=x1) (kT:=fed) (done':=done) (d':={d with t:={TS.fresh d.t.rows d.t.ah with v0:=aY,v1:=aY},tb:=T,d0:=List.replicate d.t.rows (List.replicate d.t.ah aM),d1:=List.replicate d.t.rows (List.replicate d.t.ah aM)}) 34 (aT x1 aY) jP rfl rfl (j5 hv1 _) ht1 VR.o (by simp[aT,aB]) rfl ht1.h0 hS1 ?_;intro u5 t2 c2;refine⟨qC _ ({d with t:={TS.fresh d.t.rows d.t.ah with v0:=aY,v1:=aY},tb:=T,d0:=List.replicate d.t.rows (List.replicate d.t.ah aM),d1:=List.replicate d.t.rows (List.replicate d.t.ah aM)}:DT) _ _ rfl rfl t2,?_⟩;refine aC ?_;have Am:Hid _:=t2;have HC5:Hid (Ch (· =tb) w u5):=xm.o.trans ((Sm.ch (Ch.of_below b1)).trans c2);clear t2 c2 b1 hS1 ht1 HH Cy HT0 Xg xm qC;go_wp2_with fail;go_end0;have:=Am.o;rw[HTE.o]at this
   first
    |exact⟨rfl,x0,x1,this,HC5.o⟩
    |exact⟨rfl,⟨x0,x1,this⟩,HC5.o⟩
theorem xe(l:List Bool)(c m:Nat)(hc:c≤m)(hno:∀j,c≤j→j<m→l[j]? =some false)(hend:m=l.length∨l[m]? =some true):DT.qp l c=m:=by
 unfold DT.qp;have hlen:m≤l.length:=by
  rcases hend with h|h
  ·omega
  ·have:=(gJ.1 h).1;omega
 have hf:(l.drop c).findIdx id=m-c:=by
  rcases hend with h|h
  ·apply Nat.le_antisymm
   ·have:=List.findIdx_le_length (xs:=l.drop c) (p:=id);rw[o8]at this;omega
   ·rw[Nat.le_iff_lt_add_one];apply Nat.lt_of_not_le;intro hle;have hlt:(l.drop c).findIdx id<(l.drop c).length:=by rw[o8];omega
    have h1:=List.findIdx_getElem (xs:=l.drop c) (p:=id) (w:=hlt);have h2:=hno (c+(l.drop c).findIdx id) (by omega) (by omega);rw[List.getElem_drop]at h1;rw[eG (by rw[o8]at hlt;omega)]at h2;simp at h1 h2;rw[h1]at h2;cases h2
  ·have hm:m<l.length:=(gJ.1 h).1;have hk:m-c<(l.drop c).length:=by rw[o8];omega
   rw[List.findIdx_eq hk];constructor
   ·have:=(gJ.1 h).2;simp[Nat.add_sub_cancel' hc,this]
   ·intro j hj;have h2:=hno (c+j) (by omega) (by omega);rw[eG (by omega)]at h2;simp only[List.getElem_drop,id];simpa using h2
 rw[hf];omega
theorem EH(tb:Nat)(v0 v1:Value)(fed:ByteArray)(done:Nat)(d:DT)(c:Int)(w:World)(ht:bR w tb v0 v1 fed done d)(hok:d.Ok):Calls prog 62 #[.pointer (some ⟨tb,0,none⟩),.int .i64 c] w fun e w'=>e= .returned (.tuple #[])∧∃v0' v1',bR w' tb v0' v1' fed done (d.control c)∧Ch (· =tb) w w':=by
 have wE:=hok.tl;have hc2:d.t.ah≤40:=hok.inv.c2;have hc1:1≤d.t.ah:=hok.inv.c1;obtain⟨k,hk,hkc⟩:=hok.cl;have c1:=ht.gX;have c5:w.cell? ⟨tb,5,none⟩=some (.int .i64 d.t.col):=ht.oz;have va:IntKind.i64.wrap ((d.t.ah:Int)-1)=(d.t.ah:Int)-1:=bD _ (by omega);have HT:Hid _:=ht;have iV:Hid _:=hok;clear ht hok;by_cases h8:c=8
 ·subst h8;have hX:d.control 8= {({d with t:={d.t with col:=DT.wi (d.t.col-1) 0 ((d.t.ah:Int)-1)}}:DT)with t:={({d with t:={d.t with col:=DT.wi (d.t.col-1) 0 ((d.t.ah:Int)-1)}}:DT).t with waits:=false}}:=rfl;rw[hX];have vb:IntKind.i64.wrap (d.t.col-1)=d.t.col-1:=bD _ (by omega);have HK':Hid _:=hk;clear hX hk;go_enter func62,ntmps62;go_wp2_with fail;have HT0:bR ({w with drawn:=w.drawn+1}:World) tb v0 v1 fed done d:=HT.o.sm ((Ch.refl _ _).drewN 1);have HH:World.cell? ({w with drawn:=w.drawn+1}:World) ⟨tb,1,none⟩=some (.int .i64 (d.t.ah:Int)):=HT0.gX;have H5:World.cell? ({w with drawn:=w.drawn+1}:World) ⟨tb,5,none⟩=some (.int .i64 d.t.col):=HT0.oz;refine dX (S:=fun x=>x.cell? ⟨tb,1,none⟩=some (.int .i64 (d.t.ah:Int))) aX ?_;refine ay 0 1 2 3 HH ?_;simp only[ag,af];refine ay 4 5 8 9 HH ?_;simp only[ag,af];refine dW 10 11 HH ?_;refine aj 12 HH ?_ (v:=.int .i64 ((d.t.ah:Int)-1));simp only[ag,af];refine av 6 ?_;refine qz 14 (.tmp 13) rfl rfl _ d.t.col rfl H5 ?_;refine⟨HH,?_⟩;simp only[ag,af];refine aj 7 HH ?_ (v:=.int .i64 (d.t.col-1));simp only[ag,af];refine av 13 ?_;refine dN (vs:=[.int .i64 (d.t.col-1),.int .i64 0,.int .i64 ((d.t.ah:Int)-1)]) (dh _ _ _ _) ?_;rintro v2 w9 ⟨rfl,rfl⟩;refine⟨HH,?_⟩;simp only[ag,af];refine ay 14 15 16 17 HH ?_;simp only[ag,af];refine av 18 ?_;refine sN 3 dL (.tmp 25) (.tmp 21) rfl rfl (d':={d with t:={d.t with col:=DT.wi (d.t.col-1) 0 ((d.t.ah:Int)-1)}}) 5 (.int .i64 (DT.wi (d.t.col-1) 0 ((d.t.ah:Int)-1))) rfl rfl rfl rfl HT0 wE (by decide) rfl HT0.h0 HT0.h1 ?_;intro u2 t2 k2;have H2:u2.cell? ⟨tb,1,none⟩=some (.int .i64 (d.t.ah:Int)):=t2.gX;refine⟨H2,?_⟩;refine aC ?_;have HT2:Hid _:=t2;have mD:Hid (Ch (· =tb) w u2):=((Ch.refl _ _).drewN 1).trans k2;clear t2 k2 HH H5 H2 HT0;go_wp2_with (refine aS rfl 4 dZ (.tmp 101) _ rfl rfl {({d with t:={d.t with col:=DT.wi (d.t.col-1) 0 ((d.t.ah:Int)-1)}}:DT)with t:={({d with t:={d.t with col:=DT.wi (d.t.col-1) 0 ((d.t.ah:Int)-1)}}:DT).t with waits:=false}} 6 (.bool false) rfl rfl rfl rfl HT2.o wE (by decide) rfl rfl rfl ?_);intro u9 t9 k9;go_wp2_with fail;go_end0;exact⟨rfl,v0,v1,t9,mD.o.trans k9⟩
 have b8:(c==8)=false:=by simp[h8]
 by_cases h9:c=9
 ·subst h9;have hX:d.control 9= {({d with t:={d.t with col:=DT.wi (DT.qp (d.tb.take d.t.ah) (d.t.col.toNat+1)) 0 ((d.t.ah:Int)-1)}}:DT)with t:={({d with t:={d.t with col:=DT.wi (DT.qp (d.tb.take d.t.ah) (d.t.col.toNat+1)) 0 ((d.t.ah:Int)-1)}}:DT).t with waits:=false}}:=rfl;rw[hX];have ek:d.t.col.toNat=k:=by omega
  rw[ek];rw[hk]at c5;have vb:IntKind.i64.wrap ((k:Int)+1)=(k:Int)+1:=bD _ (by omega);have hTk:(d.tb.take d.t.ah).length=d.t.ah:=iV.o.inv.lt;have HTK:Hid _:=hTk;have HK':Hid _:=hk;clear hX hk ek h8 b8 hTk;go_enter func62,ntmps62;go_wp2_with fail;go_loopw [4] (fun i wr=>∃m:Nat,k+1≤m∧m≤d.t.ah∧i= .int .i64 m∧wr=w∧∀j,k+1≤j→j<m→(d.tb.take d.t.ah)[j]? =some false) (fun i _=>d.t.ah-(intOf i).toNat)
  case atStart=>exact⟨k+1,bN _,by omega,by go_num,rfl,fun j h1 h2=>by omega⟩
  case round=>
   obtain⟨m,hm1,hm2,rfl,rfl,hno⟩:=hrel;have HNO:Hid _:=hno;clear hno;have vm:IntKind.i64.wrap ((m:Int)+1)=(m:Int)+1:=bD _ (by omega);by_cases hlt:m<d.t.ah
   ·have im:(m:Int)<(d.t.ah:Int):=by omega
    have ajp:m<40:=by omega
    have ahu:(m:Int)<40:=by omega
    obtain⟨b,hb⟩:∃b,d.tb[m]? =some b:=⟨_,eG (by omega)⟩;have aiH:wr.cell? ⟨tb,47+m,none⟩=some (.bool b):=HT.o.c (47+m) _ (Tt v0 v1 fed done d m b hb);have hb':(d.tb.take d.t.ah)[m]? =some b:=by rw[mJ,ak hlt];exact hb
    have HB:Hid _:=hb';clear hb hb';cases b
    ·go_wp2_with fail;go_roundw
     case rel=>exact⟨m+1,by omega,by omega,by go_num,trivial,fun j h1 h2=>by
      by_cases e:j=m
      ·subst e;exact HB.o
      ·exact HNO.o j h1 (by omega)⟩
     case measure=>simp[intOf];omega
    ·have hst:=xe (d.tb.take d.t.ah) (k+1) m hm1 HNO.o (.inr HB.o);have HST:Hid _:=hst;clear hst;go_wp2_with (first|(go_at_call 127;refine(dh _ _ _ _).mono ?_;rintro e w1 ⟨rfl,hw1⟩;have hw2:=hw1.symm;subst hw2)|(refine aS rfl 3 dL (.tmp 63) (.tmp 59) rfl rfl {d with t:={d.t with col:=DT.wi (m:Int) 0 ((d.t.ah:Int)-1)}} 5 _ rfl rfl rfl rfl HT.o wE (by decide) rfl rfl rfl ?_));intro u2 t2 k2;have HT2:Hid _:=t2;have mD:Hid _:=k2;clear t2 k2;go_wp2_with (refine aS rfl 4 dZ (.tmp 101) _ rfl rfl {({d with t:={d.t with col:=DT.wi (m:Int) 0 ((d.t.ah:Int)-1)}}:DT)with t:={({d with t:={d.t with col:=DT.wi (m:Int) 0 ((d.t.ah:Int)-1)}}:DT).t with waits:=false}} 6 (.bool false) rfl rfl rfl rfl HT2.o wE (by decide) rfl rfl rfl ?_);intro u9 t9 k9;go_wp2_with fail;go_end0;exact⟨rfl,v0,v1,by rw[HST.o];exact t9,mD.o.trans k9⟩
   ·have im:decide ((m:Int)<(d.t.ah:Int))=false:=by simp;omega
    have hst:=xe (d.tb.take d.t.ah) (k+1) m hm1 HNO.o (.inl (by rw[HTK.o];omega));have HST:Hid _:=hst;clear hst;go_wp2_with (first|(go_at_call 127;refine(dh _ _ _ _).mono ?_;rintro e w1 ⟨rfl,hw1⟩;have hw2:=hw1.symm;subst hw2)|(refine aS rfl 3 dL (.tmp 63) (.tmp 59) rfl rfl {d with t:={d.t with col:=DT.wi (m:Int) 0 ((d.t.ah:Int)-1)}} 5 _ rfl rfl rfl rfl HT.o wE (by decide) rfl rfl rfl ?_));intro u2 t2 k2;have HT2:Hid _:=t2;have mD:Hid _:=k2;clear t2 k2;go_wp2_with (refine aS rfl 4 dZ (.tmp 101) _ rfl rfl {({d with t:={d.t with col:=DT.wi (m:Int) 0 ((d.t.ah:Int)-1)}}:DT)with t:={({d with t:={d.t with col:=DT.wi (m:Int) 0 ((d.t.ah:Int)-1)}}:DT).t with waits:=false}} 6 (.bool false) rfl rfl rfl rfl HT2.o wE (by decide) rfl rfl rfl ?_);intro u9 t9 k9;go_wp2_with fail;go_end0;exact⟨rfl,v0,v1,by rw[HST.o];exact t9,mD.o.trans k9⟩
 have b9:(c==9)=false:=by simp[h9]
 have HKK:Hid _:=hk;clear hk;by_cases h10:c=10
 ·subst h10;have hX:d.control 10= {d.down with t:={d.down.t with waits:=false}}:=rfl;rw[hX];obtain⟨D,hD⟩:∃D,D=d.down:=⟨_,rfl⟩;rw[←hD];have wE:D.tb.length=40:=by rw[hD];exact iV.o.down.tl
  have HD:Hid _:=hD;clear hX hD;go_enter func62,ntmps62;go_wp2_with fail;refine(oI tb v0 v1 fed done d w HT.o iV.o).mono ?_;rintro e w2 ⟨rfl,x0,x1,t2,k2⟩;rw[←HD.o]at t2;have HT2:Hid _:=t2;have mD:Hid _:=k2;clear t2 k2;go_wp2_with (refine aS rfl 4 dZ (.tmp 101) _ rfl rfl {(D:DT)with t:={(D:DT).t with waits:=false}} 6 (.bool false) rfl rfl rfl rfl HT2.o wE (by decide) rfl rfl rfl ?_);intro u9 t9 k9;go_wp2_with fail;go_end0;exact⟨rfl,x0,x1,t9,mD.o.trans k9⟩
 have b10:(c==10)=false:=by simp[h10]
 by_cases h11:c=11
 ·subst h11;have hX:d.control 11= {d.down with t:={d.down.t with waits:=false}}:=rfl;rw[hX];obtain⟨D,hD⟩:∃D,D=d.down:=⟨_,rfl⟩;rw[←hD];have wE:D.tb.length=40:=by rw[hD];exact iV.o.down.tl
  have HD:Hid _:=hD;clear hX hD;go_enter func62,ntmps62;go_wp2_with fail;refine(oI tb v0 v1 fed done d w HT.o iV.o).mono ?_;rintro e w2 ⟨rfl,x0,x1,t2,k2⟩;rw[←HD.o]at t2;have HT2:Hid _:=t2;have mD:Hid _:=k2;clear t2 k2;go_wp2_with (refine aS rfl 4 dZ (.tmp 101) _ rfl rfl {(D:DT)with t:={(D:DT).t with waits:=false}} 6 (.bool false) rfl rfl rfl rfl HT2.o wE (by decide) rfl rfl rfl ?_);intro u9 t9 k9;go_wp2_with fail;go_end0;exact⟨rfl,x0,x1,t9,mD.o.trans k9⟩
 have b11:(c==11)=false:=by simp[h11]
 by_cases h12:c=12
 ·subst h12;have hX:d.control 12= {d.down with t:={d.down.t with waits:=false}}:=rfl;rw[hX];obtain⟨D,hD⟩:∃D,D=d.down:=⟨_,rfl⟩;rw[←hD];have wE:D.tb.length=40:=by rw[hD];exact iV.o.down.tl
  have HD:Hid _:=hD;clear hX hD;go_enter func62,ntmps62;go_wp2_with fail;refine(oI tb v0 v1 fed done d w HT.o iV.o).mono ?_;rintro e w2 ⟨rfl,x0,x1,t2,k2⟩;rw[←HD.o]at t2;have HT2:Hid _:=t2;have mD:Hid _:=k2;clear t2 k2;go_wp2_with (refine aS rfl 4 dZ (.tmp 101) _ rfl rfl {(D:DT)with t:={(D:DT).t with waits:=false}} 6 (.bool false) rfl rfl rfl rfl HT2.o wE (by decide) rfl rfl rfl ?_);intro u9 t9 k9;go_wp2_with fail;go_end0;exact⟨rfl,x0,x1,t9,mD.o.trans k9⟩
 have b12:(c==12)=false:=by simp[h12]
 by_cases h13:c=13
 ·subst h13;have hX:d.control 13= {({d with t:={d.t with col:=0}}:DT)with t:={({d with t:={d.t with col:=0}}:DT).t with waits:=false}}:=rfl;rw[hX];clear hX;go_enter func62,ntmps62;go_wp2_with (refine aS rfl 3 dL (.tmp 76) _ rfl rfl {d with t:={d.t with col:=0}} 5 (.int .i64 0) rfl rfl rfl rfl HT.o wE (by decide) rfl rfl rfl ?_);intro u2 t2 k2;have HT2:Hid _:=t2;have mD:Hid _:=k2;clear t2 k2;go_wp2_with (refine aS rfl 4 dZ (.tmp 101) _ rfl rfl {({d with t:={d.t with col:=0}}:DT)with t:={({d with t:={d.t with col:=0}}:DT).t with waits:=false}} 6 (.bool false) rfl rfl rfl rfl HT2.o wE (by decide) rfl rfl rfl ?_);intro u9 t9 k9;go_wp2_with fail;go_end0;exact⟨rfl,v0,v1,t9,mD.o.trans k9⟩
 have b13:(c==13)=false:=by simp[h13]
 by_cases h14:c=14
 ·subst h14;have hX:d.control 14= {d with t:={d.t with use:=1}}:=rfl;rw[hX];clear hX;go_enter func62,ntmps62;go_wp2_with (refine aS rfl 3 dL (.tmp 83) _ rfl rfl {d with t:={d.t with use:=1}} 14 (.int .i64 1) rfl rfl rfl rfl HT.o wE (by decide) rfl rfl rfl ?_);intro u2 t2 k2;go_wp2_with fail;go_end0;exact⟨rfl,v0,v1,t2,k2⟩
 have b14:(c==14)=false:=by simp[h14]
 by_cases h15:c=15
 ·subst h15;have hX:d.control 15= {d with t:={d.t with use:=0}}:=rfl;rw[hX];clear hX;go_enter func62,ntmps62;go_wp2_with (refine aS rfl 3 dL (.tmp 90) _ rfl rfl {d with t:={d.t with use:=0}} 14 (.int .i64 0) rfl rfl rfl rfl HT.o wE (by decide) rfl rfl rfl ?_);intro u2 t2 k2;go_wp2_with fail;go_end0;exact⟨rfl,v0,v1,t2,k2⟩
 have b15:(c==15)=false:=by simp[h15]
 have hX:d.control c=d:=by unfold DT.control;simp only;rw[ai (show¬(8≤c∧c≤13) by omega),ai h8,ai h9,ai (by omega),ai h13,ai h14,ai h15]
 rw[hX];clear hX;by_cases q8:8≤c
 ·have q13:decide (c≤13)=false:=by simp;omega
  go_enter func62,ntmps62;go_wp2_with fail;go_end0
  first
   |exact⟨rfl,v0,v1,HT.o,Ch.refl _ _⟩
   |exact⟨rfl,⟨v0,v1,HT.o⟩,Ch.refl _ _⟩
 ·have q8':decide (8≤c)=false:=by simp;omega
  go_enter func62,ntmps62;go_wp2_with fail;go_end0
  first
   |exact⟨rfl,v0,v1,HT.o,Ch.refl _ _⟩
   |exact⟨rfl,⟨v0,v1,HT.o⟩,Ch.refl _ _⟩
end Go.Proofs.YtheibfffilomcaaGreatDoor
