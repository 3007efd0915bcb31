import Derived.Test.YtheibfffilomcaaGreatDoorTmaU
import Derived.Test.YtheibfffilomcaaGreatDoorVxU
set_option linter.all false
set_option maxRecDepth 100000
set_option maxHeartbeats 40000000
namespace Go.Proofs.YtheibfffilomcaaGreatDoor
open Go.RowKit Go.Proofs.Tryz
theorem Mm{T l:List Bool}{k:Nat}(h1:k<T.length)(h2:k<l.length)(h:T[k]? =l[k]?):T.take (k+1)++l.drop (k+1)=T.take k++l.drop k:=by rw[uH h2,o7 h1,f_];rw[eG h1,eG h2]at h;rw[gz h];rfl
theorem Su{T l:List Bool}{k:Nat}{b:Bool}(h1:k<T.length)(h2:k<l.length)(h:T[k]? =some b):T.take (k+1)++l.drop (k+1)=(T.take k++l.drop k).set k b:=by rw[uH h2,o7 h1,f_];rw[eG h1]at h;rw[gz h,CX _ _ (by simp;omega),show k-(T.take k).length=0 by simp;omega];rfl
theorem Ke(l:List Int)(n:Int):∀d:DT,d.qf (l++[n])=(d.qf l).sc (fun t=>{t with pen:=TS.turn t.pen (TS.amount n)}):=by
 induction l with
 |nil=>intro d;rfl
 |cons a l ih=>intro d;rw[xV,DT.qf,ih];rfl
theorem Rl(l:List Int):∀d:DT,(d.qf l).tb=d.tb:=by
 induction l with
 |nil=>intro d;rfl
 |cons a l ih=>intro d;rw[DT.qf,ih];rfl
theorem Qo(tb:Nat)(v0 v1:Value)(fed:ByteArray)(done:Nat)(d:DT)(ev:List Int)(ct:Nat)(w:World)(ht:bR w tb v0 v1 fed done d)(hok:d.Ok)(hl:ev.length=21)(hct:ev.getD 4 0=(ct:Int))(hc16:ct≤16)(hb:∀i,(ev.drop 5).getD i 0≤70000)(f:Int)(hf:ev.getD 3 0=f):Calls prog 64 #[.pointer (some ⟨tb,0,none⟩),.agg (aA ev)] w fun e w'=>e= .returned (.tuple #[])∧∃v0' v1',bR w' tb v0' v1' fed done (d.sequence f (ev.drop 5) ct)∧Ch (· =tb) w w':=by
 have htl:=hok.tl;have hc2:d.t.ah≤40:=hok.inv.c2;have hr2:d.t.rows≤12:=hok.inv.r2;obtain⟨n,hn⟩:∃n:Nat,DT.qO (ev.drop 5) ct 0 1=(n:Int):=⟨(DT.qO (ev.drop 5) ct 0 1).toNat,by have:=(rC hb ct 0 1 (by omega) (by omega)).1;omega⟩;obtain⟨z,hz⟩:∃z:Nat,DT.qO (ev.drop 5) ct 0 0=(z:Int):=⟨(DT.qO (ev.drop 5) ct 0 0).toNat,by have:=(rC hb ct 0 0 (by omega) (by omega)).1;omega⟩;obtain⟨m,hm⟩:∃m:Nat,DT.qO (ev.drop 5) ct 1 1=(m:Int):=⟨(DT.qO (ev.drop 5) ct 1 1).toNat,by have:=(rC hb ct 1 1 (by omega) (by omega)).1;omega⟩;have bn:1≤n∧n≤70000:=by have:=rC hb ct 0 1 (by omega) (by omega);omega
 have bm:1≤m∧m≤70000:=by have:=rC hb ct 1 1 (by omega) (by omega);omega
 have N0:∀u,Calls prog 129 #[.agg (aA ev),.int .i64 0,.int .i64 1] u fun e w'=>e= .returned (.int .i64 (n:Int))∧Sm u w':=fun u=>by rw[←hn];exact pg ev ct 0 1 u hl hct (by omega) hc16
 have Z0:∀u,Calls prog 129 #[.agg (aA ev),.int .i64 0,.int .i64 0] u fun e w'=>e= .returned (.int .i64 (z:Int))∧Sm u w':=fun u=>by rw[←hz];exact pg ev ct 0 0 u hl hct (by omega) hc16
 have M0:∀u,Calls prog 129 #[.agg (aA ev),.int .i64 1,.int .i64 1] u fun e w'=>e= .returned (.int .i64 (m:Int))∧Sm u w':=fun u=>by rw[←hm];exact pg ev ct 1 1 u hl hct (by omega) hc16
 have MVS:∀u,bR u tb v0 v1 fed done d→Calls prog 130 #[.pointer (some ⟨tb,0,none⟩),.int .i64 f,.int .i64 (n:Int),.int .i64 (m:Int)] u fun e w'=>e= .returned (.bool (DT.qZ f))∧bR w' tb v0 v1 fed done (d.moves f (n:Int) (m:Int))∧Ch (· =tb) u w':=fun u hu=>JI tb v0 v1 fed done d f n m u hu hok (by omega) (by omega);have HE3:Hid ((eF ev)[3]? =some (.int .i64 f)):=by show _=_;rw[jo ev 3 (by omega),hf]
 have EC3:Hid (∀x:World,x.heap[w.heap.size]? =some (.cells (aA ev) 46 (0,0))→x.cell? ⟨w.heap.size,3,none⟩=some (.int .i64 f)):=fun x hx=>(bG x _ _ _ _ _ hx).trans (by have h9:=HE3.o;rw[aA];simpa using h9);have Bw:tb<w.heap.size:=ht.lt;have HT:Hid _:=ht;have iV:Hid d.Ok:=hok;have HN0:Hid _:=N0;have HZ0:Hid _:=Z0;have HM0:Hid _:=M0;have HMV:Hid _:=MVS;have nK:Hid ((w.alloc (.cells (aA ev) 46)).heap[w.heap.size]? =some (.cells (aA ev) 46 (0,0))):=bV _ _;have oG:Hid (Sm w (w.alloc (.cells (aA ev) 46))):=(Ch.refl _ _).alloc _;obtain⟨E,hE⟩:∃E,E=d.sequence f (ev.drop 5) ct:=⟨_,rfl⟩;obtain⟨b,hmv⟩:∃b,DT.qZ f=b:=⟨_,rfl⟩;rw[←hE];have HE:Hid _:=hE;have I6:Hid _:=hn;have Jp:Hid _:=hz;have I5:Hid _:=hm;have Jn:Hid _:=hct;have Jo:Hid _:=hb;clear hE hn hz hm N0 Z0 M0 MVS ht hok hct hb hf;have TM:Hid _:=hmv;clear hmv;go_enter func64,ntmps64;go_wp2_with (refine fA _ rfl (.tmp 3) rfl w.heap.size ev rfl hl 46 (0,0) nK.o ?_);refine(HN0.o _).mono ?_;rintro e w1 ⟨rfl,s1⟩;have nZ:Hid (w1.heap[w.heap.size]? =some (.cells (aA ev) 46 (0,0))):=(s1.block _ (by simp) id).trans nK.o;have wu:Hid (Sm w w1):=oG.o.trans s1;clear s1;go_wp2_with (refine fA _ rfl (.tmp 3) rfl w.heap.size ev rfl hl 46 (0,0) nZ.o ?_);refine(HZ0.o _).mono ?_;rintro e w2 ⟨rfl,s2⟩;have G2:w2.heap[w.heap.size]? =some (.cells (aA ev) 46 (0,0)):=(s2.block _ (aK nZ.o) id).trans nZ.o;have S2:Sm w w2:=wu.o.trans s2;clear s2;have HG2:Hid _:=G2;have HS2:Hid _:=S2;clear G2 S2;go_wp2_with fail;have Zf:({w2 with drawn:=w2.drawn+1}:World).heap[w.heap.size]? =some (.cells (aA ev) 46 (0,0)):=HG2.o;have T2:bR ({w2 with drawn:=w2.drawn+1}:World) tb v0 v1 fed done d:=HT.o.sm (HS2.o.drewN 1);refine dX (S:=fun x=>x.heap[w.heap.size]? =some (.cells (aA ev) 46 (0,0))) aX ?_;refine dH 0 1 3 Zf ?_;simp only[ag,af];refine aj 4 Zf ?_ (v:=.agg (eF ev).toArray) (hy:=(kz (by rfl) 46 (.tmp 3) rfl w.heap.size 0 rfl (eF ev) _ (fun x h=>fK h) underlying46 rfl (by rw[show(eF ev).length=21 by simp[eF,hl]];exact gZ)));simp only[ag,af];refine aj 2 Zf ?_ (v:=.int .i64 f) (hy:=Or.inl ⟨by rfl,by intro x gY;have UQ:=EC3.o x gY;go_simp;try (first|rfl|go_num)⟩);simp only[ag,af];refine av 5 ?_;refine dN (vs:=[.agg (eF ev).toArray,.int .i64 1,.int .i64 1]) (HM0.o _) ?_;rintro v3 w3 ⟨rfl,s3⟩;have SS1:=(s3.block _ (aK Zf) id).trans Zf;have T3:=T2.sm s3;refine⟨SS1,?_⟩
 try simp only[ag,af]
 refine av 6 ?_;refine a_ (vs:=[.pointer (some ⟨tb,0,none⟩),.int .i64 f,.int .i64 (n:Int),.int .i64 (m:Int)]) (R:=fun v w'=>v= .bool b∧bR w' tb v0 v1 fed done (d.moves f (n:Int) (m:Int))∧Ch (· =tb) w3 w') ((HMV.o _ T3).mono fun e w' h=>⟨_,h.1,by rw[TM.o],h.2⟩) ?_;rintro v4 w4 ⟨rfl,t4,k4⟩;have Tf:=(k4.block _ (aK SS1) (by omega)).trans SS1;have K4:Ch (· =tb) w w4:=(Sm.ch ((HS2.o.drewN 1).trans s3)).trans k4;refine⟨Tf,?_⟩
 try simp only[ag,af]
 refine aj 7 Tf ?_;simp only[ag,af];refine aC ?_;have Xf:Hid _:=t4;have Co:Hid _:=Tf;have qY:Hid _:=K4;have c3:w4.cell? ⟨w.heap.size,3,none⟩=some (.int .i64 f):=EC3.o _ Tf;clear Zf SS1 Tf T2 T3 t4 k4 K4 s3;cases b with
 |true=>
  have rV:Hid _:=Xf.o;have hn:=I6.o;have hm:=I5.o;have hE:=HE.o;have hX:d.sequence f (ev.drop 5) ct=d.moves f (n:Int) (m:Int):=by unfold DT.sequence;rw[ak TM.o,hn,hm]
  rw[hX]at hE;subst hE;clear hX hn hm;go_wp2_with fail
  first|go_end0|((try simp only[Exit.inBlock,Exit.then]);refine bX (dz rfl _ _ _) rfl ?_)
  first|exact⟨rfl,v0,v1,rV.o,qY.o⟩|exact⟨rfl,⟨v0,v1,rV.o⟩,qY.o⟩
 |false=>
  have rV:Hid (bR w4 tb v0 v1 fed done d):=by have h9:=Xf.o;rw[J9 TM.o]at h9;exact h9
  clear Xf;by_cases h64:f=64
  ·subst h64;have hn:=I6.o;have hz:=Jp.o;have hm:=I5.o;have hok:=iV.o;have hct:=Jn.o;have hb:=Jo.o;have hE:=HE.o;obtain⟨c,hc,hcc⟩:=hok.cl;have hcn:d.t.col.toNat=c:=by omega
   have hrl:=hok.rn.2;have hc1:1≤d.t.ah:=hok.inv.c1;obtain⟨D,hD⟩:∃D,D=d.put (pushed d.aP c n):=⟨_,rfl⟩;have OO:D.tb.length=40:=by rw[hD,(d.qg _).2.1];exact htl
   have hX:d.sequence 64 (ev.drop 5) ct= {D with t:={D.t with waits:=false}}:=by unfold DT.sequence;rw[ai (by decide),hn,hz,hD];unfold DT.edit;simp only[if_true,hcn,lF];rfl
   rw[hX]at hE;subst hE;have HC:Hid _:=hc;have HD:Hid _:=hD;clear hn hz hm hok hct hb;clear hX hc hD hcn;go_wp2_with fail;have CC:∀u (e:DT) (x0 x1:Value),e.t.col=d.t.col→e.t.ah=d.t.ah→bR u tb x0 x1 fed done e→u.cell? ⟨tb,5,none⟩=some (.int .i64 (c:Int))∧u.cell? ⟨tb,1,none⟩=some (.int .i64 (d.t.ah:Int)):=fun u e x0 x1 e1 e2 hu=>⟨by rw[←HC.o, ←e1];exact hu.oz,by rw[←e2];exact hu.gX⟩;have T4:bR ({w4 with drawn:=w4.drawn+1}:World) tb v0 v1 fed done d:=rV.o.sm ((Ch.refl _ _).drewN 1);have S4:=CC _ d v0 v1 rfl rfl T4;have K4:Ch (· =tb) w ({w4 with drawn:=w4.drawn+1}:World):=qY.o.drewN 1;refine dX (S:=fun x=>x.cell? ⟨tb,5,none⟩=some (.int .i64 (c:Int))∧x.cell? ⟨tb,1,none⟩=some (.int .i64 (d.t.ah:Int))) aX ?_;refine ay 0 1 3 9 S4 ?_;simp only[ag,af];refine ay 4 5 6 7 S4 ?_;simp only[ag,af];refine aj 8 S4 ?_;simp only[ag,af];refine av 2 ?_;refine a_ (vs:=[.pointer (some ⟨tb,0,none⟩)]) (qL tb v0 v1 fed done d _ T4 iV.o) ?_;rintro vr w5 ⟨R5,s5⟩;have T5:=T4.sm s5;have S5:=CC _ d v0 v1 rfl rfl T5;have K5:=K4.trans (Sm.ch s5);refine⟨S5,?_⟩
   try simp only[ag,af]
   refine av 10 ?_;refine a_ (vs:=[vr,.int .i64 (c:Int),.int .i64 (n:Int)]) (xE vr d.aP c n _ w5 R5 (by omega) (by omega) (by omega) (by omega)) ?_;rintro vp w6 ⟨O6,b6⟩;have Ob:Sm w5 w6:=Ch.of_below b6;have T6:=T5.sm Ob;have S6:=CC _ d v0 v1 rfl rfl T6;have K6:=K5.trans (Sm.ch Ob);refine⟨S6,?_⟩
   try simp only[ag,af]
   refine av 11 ?_;refine dN (vs:=[.pointer (some ⟨tb,0,none⟩),vp]) (qK tb v0 v1 vp fed done d (pushed d.aP c n) w6 T6 iV.o ((O6.rd).mono (dx _))) ?_;rintro v7 w7 ⟨rfl,x0,x1,t7,k7⟩;have S7:=CC _ _ x0 x1 (by rw[(d.qg _).1]) (by rw[(d.qg _).1]) t7;have K7:=K6.trans k7;rw[←HD.o]at t7;refine⟨S7,?_⟩
   try simp only[ag,af]
   refine aC ?_;have xq:Hid _:=t7;have Al:Hid _:=K7;clear t7 k7 S7 K7 S4 S5 K5 T5 T4 R5 s5 CC;go_wp2_with (refine aS rfl 4 dZ (.tmp 41) _ rfl rfl {D with t:={D.t with waits:=false}} 6 (.bool false) rfl rfl rfl rfl xq.o OO (by decide) rfl rfl rfl ?_);intro u8 t8 k8;go_wp2_with fail
   first|go_end0|((try simp only[Exit.inBlock,Exit.then]);refine bX (dz rfl _ _ _) rfl ?_)
   first|exact⟨rfl,x0,x1,t8,Al.o.trans k8⟩|exact⟨rfl,⟨x0,x1,t8⟩,Al.o.trans k8⟩
  have N64:Hid _:=h64;clear h64;by_cases h80:f=80
  ·subst h80;have hn:=I6.o;have hz:=Jp.o;have hm:=I5.o;have hok:=iV.o;have hct:=Jn.o;have hb:=Jo.o;have hE:=HE.o;obtain⟨c,hc,hcc⟩:=hok.cl;have hcn:d.t.col.toNat=c:=by omega
   have hrl:=hok.rn.2;have hc1:1≤d.t.ah:=hok.inv.c1;obtain⟨D,hD⟩:∃D,D=d.put (tY d.aP c n):=⟨_,rfl⟩;have OO:D.tb.length=40:=by rw[hD,(d.qg _).2.1];exact htl
   have hX:d.sequence 80 (ev.drop 5) ct= {D with t:={D.t with waits:=false}}:=by unfold DT.sequence;rw[ai (by decide),hn,hz,hD];unfold DT.edit;simp only[show¬((80:Int)=64) by decide,ou,if_true,hcn,lF];rfl
   rw[hX]at hE;subst hE;have HC:Hid _:=hc;have HD:Hid _:=hD;clear hn hz hm hok hct hb;clear hX hc hD hcn;go_wp2_with fail;have CC:∀u (e:DT) (x0 x1:Value),e.t.col=d.t.col→e.t.ah=d.t.ah→bR u tb x0 x1 fed done e→u.cell? ⟨tb,5,none⟩=some (.int .i64 (c:Int))∧u.cell? ⟨tb,1,none⟩=some (.int .i64 (d.t.ah:Int)):=fun u e x0 x1 e1 e2 hu=>⟨by rw[←HC.o, ←e1];exact hu.oz,by rw[←e2];exact hu.gX⟩;have T4:bR ({w4 with drawn:=w4.drawn+1}:World) tb v0 v1 fed done d:=rV.o.sm ((Ch.refl _ _).drewN 1);have S4:=CC _ d v0 v1 rfl rfl T4;have K4:Ch (· =tb) w ({w4 with drawn:=w4.drawn+1}:World):=qY.o.drewN 1;refine dX (S:=fun x=>x.cell? ⟨tb,5,none⟩=some (.int .i64 (c:Int))∧x.cell? ⟨tb,1,none⟩=some (.int .i64 (d.t.ah:Int))) aX ?_;refine ay 0 1 3 9 S4 ?_;simp only[ag,af];refine ay 4 5 6 7 S4 ?_;simp only[ag,af];refine aj 8 S4 ?_;simp only[ag,af];refine av 2 ?_;refine a_ (vs:=[.pointer (some ⟨tb,0,none⟩)]) (qL tb v0 v1 fed done d _ T4 iV.o) ?_;rintro vr w5 ⟨R5,s5⟩;have T5:=T4.sm s5;have S5:=CC _ d v0 v1 rfl rfl T5;have K5:=K4.trans (Sm.ch s5);refine⟨S5,?_⟩
   try simp only[ag,af]
   refine av 10 ?_;refine a_ (vs:=[vr,.int .i64 (c:Int),.int .i64 (n:Int)]) (Kk vr d.aP c n _ w5 R5 (by omega) (by omega) (by omega) (by omega)) ?_;rintro vp w6 ⟨O6,b6⟩;have Ob:Sm w5 w6:=Ch.of_below b6;have T6:=T5.sm Ob;have S6:=CC _ d v0 v1 rfl rfl T6;have K6:=K5.trans (Sm.ch Ob);refine⟨S6,?_⟩
   try simp only[ag,af]
   refine av 11 ?_;refine dN (vs:=[.pointer (some ⟨tb,0,none⟩),vp]) (qK tb v0 v1 vp fed done d (tY d.aP c n) w6 T6 iV.o ((O6.rd).mono (dx _))) ?_;rintro v7 w7 ⟨rfl,x0,x1,t7,k7⟩;have S7:=CC _ _ x0 x1 (by rw[(d.qg _).1]) (by rw[(d.qg _).1]) t7;have K7:=K6.trans k7;rw[←HD.o]at t7;refine⟨S7,?_⟩
   try simp only[ag,af]
   refine aC ?_;have xq:Hid _:=t7;have Al:Hid _:=K7;clear t7 k7 S7 K7 S4 S5 K5 T5 T4 R5 s5 CC;go_wp2_with (refine aS rfl 4 dZ (.tmp 60) _ rfl rfl {D with t:={D.t with waits:=false}} 6 (.bool false) rfl rfl rfl rfl xq.o OO (by decide) rfl rfl rfl ?_);intro u8 t8 k8;go_wp2_with fail
   first|go_end0|((try simp only[Exit.inBlock,Exit.then]);refine bX (dz rfl _ _ _) rfl ?_)
   first|exact⟨rfl,x0,x1,t8,Al.o.trans k8⟩|exact⟨rfl,⟨x0,x1,t8⟩,Al.o.trans k8⟩
  have N80:Hid _:=h80;clear h80;by_cases h88:f=88
  ·subst h88;have hn:=I6.o;have hz:=Jp.o;have hm:=I5.o;have hok:=iV.o;have hct:=Jn.o;have hb:=Jo.o;have hE:=HE.o;obtain⟨c,hc,hcc⟩:=hok.cl;have hcn:d.t.col.toNat=c:=by omega
   have hrl:=hok.rn.2;have hc1:1≤d.t.ah:=hok.inv.c1;obtain⟨D,hD⟩:∃D,D=d.put (over d.aP c (List.replicate (min n (d.t.ah-c)) aM)):=⟨_,rfl⟩;have OO:D.tb.length=40:=by rw[hD,(d.qg _).2.1];exact htl
   have hX:d.sequence 88 (ev.drop 5) ct= {D with t:={D.t with waits:=false}}:=by unfold DT.sequence;rw[ai (by decide),hn,hz,hD];unfold DT.edit;simp only[show¬((88:Int)=64) by decide,show¬((88:Int)=80) by decide,ou,if_true,hcn,lF];rfl
   rw[hX]at hE;subst hE;have HC:Hid _:=hc;have HD:Hid _:=hD;have vcc:IntKind.i64.wrap ((d.t.ah:Int)-(c:Int))=((d.t.ah-c:Nat):Int):=by rw[show(d.t.ah:Int)-(c:Int)=((d.t.ah-c:Nat):Int) by omega];exact bD _ (by omega)
   clear hn hz hm hok hct hb;clear hX hc hD hcn;go_wp2_with fail;have CC:∀u (e:DT) (x0 x1:Value),e.t.col=d.t.col→e.t.ah=d.t.ah→bR u tb x0 x1 fed done e→u.cell? ⟨tb,5,none⟩=some (.int .i64 (c:Int))∧u.cell? ⟨tb,1,none⟩=some (.int .i64 (d.t.ah:Int)):=fun u e x0 x1 e1 e2 hu=>⟨by rw[←HC.o, ←e1];exact hu.oz,by rw[←e2];exact hu.gX⟩;have T4:bR ({w4 with drawn:=w4.drawn+1}:World) tb v0 v1 fed done d:=rV.o.sm ((Ch.refl _ _).drewN 1);have S4:=CC _ d v0 v1 rfl rfl T4;have K4:Ch (· =tb) w ({w4 with drawn:=w4.drawn+1}:World):=qY.o.drewN 1;refine dX (S:=fun x=>x.cell? ⟨tb,5,none⟩=some (.int .i64 (c:Int))∧x.cell? ⟨tb,1,none⟩=some (.int .i64 (d.t.ah:Int))) aX ?_;refine ay 0 1 3 9 S4 ?_;simp only[ag,af];refine ay 10 14 4 11 S4 ?_;simp only[ag,af];refine ay 15 5 12 16 S4 ?_;simp only[ag,af];refine ay 6 13 17 7 S4 ?_;simp only[ag,af];refine dH 18 8 19 S4 ?_;refine aj 20 S4 ?_ (v:=.int .i64 ((d.t.ah-c:Nat):Int));simp only[ag,af];refine av 2 ?_;refine a_ (vs:=[.pointer (some ⟨tb,0,none⟩)]) (qL tb v0 v1 fed done d _ T4 iV.o) ?_;rintro vr w5 ⟨R5,s5⟩;have T5:=T4.sm s5;have S5:=CC _ d v0 v1 rfl rfl T5;have K5:=K4.trans (Sm.ch s5);refine⟨S5,?_⟩
   try simp only[ag,af]
   refine av 21 ?_;refine a_ (vs:=[.int .i64 (n:Int),.int .i64 ((d.t.ah-c:Nat):Int)]) (R:=fun v w'=>v= .int .i64 ((min n (d.t.ah-c)):Nat)∧w'=w5) ((zA _ _ _).mono fun e w' h=>⟨_,h.1,by congr 1;omega,h.2⟩) ?_;rintro v6 w6' ⟨rfl,hw6⟩;have afc:=hw6.symm;subst afc;refine⟨S5,?_⟩
   try simp only[ag,af]
   refine av 22 ?_;refine a_ (vs:=[.int .i64 ((min n (d.t.ah-c)):Nat)]) (iE (min n (d.t.ah-c)) _ (by omega)) ?_;rintro vb w8 ⟨O8,b8⟩;have sb8:Sm w5 w8:=Ch.of_below b8;have T8:=T5.sm sb8;have S8:=CC _ d v0 v1 rfl rfl T8;have K8:=K5.trans (Sm.ch sb8);have R8:=dF.sm R5 sb8;refine⟨S8,?_⟩
   try simp only[ag,af]
   refine av 23 ?_;refine a_ (vs:=[vr,.int .i64 (c:Int),vb]) (lX vr vb d.aP (List.replicate (min n (d.t.ah-c)) aM) c _ _ w8 R8 (gL.rd O8) (by omega) (by rw[kJ];omega) (by omega)) ?_;rintro vp w9 ⟨O9,b9⟩;have Tk:Sm w8 w9:=Ch.of_below b9;have T9:=T8.sm Tk;have S9:=CC _ d v0 v1 rfl rfl T9;have K9:=K8.trans (Sm.ch Tk);refine⟨S9,?_⟩
   try simp only[ag,af]
   refine av 24 ?_;refine dN (vs:=[.pointer (some ⟨tb,0,none⟩),vp]) (qK tb v0 v1 vp fed done d (over d.aP c (List.replicate (min n (d.t.ah-c)) aM)) w9 T9 iV.o ((O9.rd).mono (dx _))) ?_;rintro v7 w7 ⟨rfl,x0,x1,t7,k7⟩;have S7:=CC _ _ x0 x1 (by rw[(d.qg _).1]) (by rw[(d.qg _).1]) t7;have K7:=K9.trans k7;rw[←HD.o]at t7;refine⟨S7,?_⟩
   try simp only[ag,af]
   refine aC ?_;have xq:Hid _:=t7;have Al:Hid _:=K7;clear t7 k7 S7 K7 S4 S5 K5 T5 T4 R5 s5 CC;go_wp2_with (refine aS rfl 4 dZ (.tmp 92) _ rfl rfl {D with t:={D.t with waits:=false}} 6 (.bool false) rfl rfl rfl rfl xq.o OO (by decide) rfl rfl rfl ?_);intro u8 t8 k8;go_wp2_with fail
   first|go_end0|((try simp only[Exit.inBlock,Exit.then]);refine bX (dz rfl _ _ _) rfl ?_)
   first|exact⟨rfl,x0,x1,t8,Al.o.trans k8⟩|exact⟨rfl,⟨x0,x1,t8⟩,Al.o.trans k8⟩
  have N88:Hid _:=h88;clear h88;by_cases h76:f=76
  ·subst h76;have hn:=I6.o;have hz:=Jp.o;have hm:=I5.o;have hok:=iV.o;have hct:=Jn.o;have hb:=Jo.o;have hE:=HE.o;have hX:d.sequence 76 (ev.drop 5) ct=d.rows (-(n:Int)):=by unfold DT.sequence;rw[ai (by decide),hn,hz];rfl
   rw[hX]at hE;subst hE;have vn:IntKind.i64.wrap (-(n:Int))= -(n:Int):=bD _ (by omega);clear hn hz hm hok hct hb;clear hX;skip;go_wp2_with fail;refine(Du tb v0 v1 fed done d (-(n:Int)) _ rV.o iV.o (by omega)).mono ?_;rintro e w5 ⟨rfl,x0,x1,t5,k5⟩;go_wp2_with fail
   first|go_end0|((try simp only[Exit.inBlock,Exit.then]);refine bX (dz rfl _ _ _) rfl ?_)
   first|exact⟨rfl,x0,x1,t5,qY.o.trans k5⟩|exact⟨rfl,⟨x0,x1,t5⟩,qY.o.trans k5⟩
  have N76:Hid _:=h76;clear h76;by_cases h77:f=77
  ·subst h77;have hn:=I6.o;have hz:=Jp.o;have hm:=I5.o;have hok:=iV.o;have hct:=Jn.o;have hb:=Jo.o;have hE:=HE.o;have hX:d.sequence 77 (ev.drop 5) ct=d.rows (n:Int):=by unfold DT.sequence;rw[ai (by decide),hn,hz];rfl
   rw[hX]at hE;subst hE;clear hn hz hm hok hct hb;clear hX;skip;go_wp2_with fail;refine(Du tb v0 v1 fed done d (n:Int) _ rV.o iV.o (by omega)).mono ?_;rintro e w5 ⟨rfl,x0,x1,t5,k5⟩;go_wp2_with fail
   first|go_end0|((try simp only[Exit.inBlock,Exit.then]);refine bX (dz rfl _ _ _) rfl ?_)
   first|exact⟨rfl,x0,x1,t5,qY.o.trans k5⟩|exact⟨rfl,⟨x0,x1,t5⟩,qY.o.trans k5⟩
  have N77:Hid _:=h77;clear h77;by_cases h83:f=83
  ·subst h83;have hn:=I6.o;have hz:=Jp.o;have hm:=I5.o;have hok:=iV.o;have hct:=Jn.o;have hb:=Jo.o;have hE:=HE.o;have hX:d.sequence 83 (ev.drop 5) ct=d.fI d.t.top (n:Int):=by unfold DT.sequence;rw[ai (by decide),hn,hz];rfl
   rw[hX]at hE;subst hE;have ht0:0≤d.t.top:=hok.inv.iO;clear hn hz hm hok hct hb;clear hX;have c16:=rV.o.rY;go_wp2_with fail;refine(pq tb v0 v1 fed done d d.t.top (n:Int) _ rV.o iV.o ht0 (by omega)).mono ?_;rintro e w5 ⟨rfl,x0,x1,t5,k5⟩;go_wp2_with fail
   first|go_end0|((try simp only[Exit.inBlock,Exit.then]);refine bX (dz rfl _ _ _) rfl ?_)
   first|exact⟨rfl,x0,x1,t5,qY.o.trans k5⟩|exact⟨rfl,⟨x0,x1,t5⟩,qY.o.trans k5⟩
  have N83:Hid _:=h83;clear h83;by_cases h84:f=84
  ·subst h84;have hn:=I6.o;have hz:=Jp.o;have hm:=I5.o;have hok:=iV.o;have hct:=Jn.o;have hb:=Jo.o;have hE:=HE.o;have hX:d.sequence 84 (ev.drop 5) ct=d.fI d.t.top (-(n:Int)):=by unfold DT.sequence;rw[ai (by decide),hn,hz];rfl
   rw[hX]at hE;subst hE;have ht0:0≤d.t.top:=hok.inv.iO;have vn:IntKind.i64.wrap (-(n:Int))= -(n:Int):=bD _ (by omega);clear hn hz hm hok hct hb;clear hX;have c16:=rV.o.rY;go_wp2_with fail;refine(pq tb v0 v1 fed done d d.t.top (-(n:Int)) _ rV.o iV.o ht0 (by omega)).mono ?_;rintro e w5 ⟨rfl,x0,x1,t5,k5⟩;go_wp2_with fail
   first|go_end0|((try simp only[Exit.inBlock,Exit.then]);refine bX (dz rfl _ _ _) rfl ?_)
   first|exact⟨rfl,x0,x1,t5,qY.o.trans k5⟩|exact⟨rfl,⟨x0,x1,t5⟩,qY.o.trans k5⟩
  have N84:Hid _:=h84;clear h84;by_cases h74:f=74
  ·subst h74;have hn:=I6.o;have hz:=Jp.o;have hm:=I5.o;have hok:=iV.o;have hct:=Jn.o;have hb:=Jo.o;have hE:=HE.o;have hX:d.sequence 74 (ev.drop 5) ct=d.erase 74 (z:Int):=by unfold DT.sequence;rw[ai (by decide),hn,hz];rfl
   rw[hX]at hE;subst hE;clear hn hz hm hok hct hb;clear hX;skip;go_wp2_with fail;refine(Bl tb v0 v1 fed done d 74 (z:Int) _ rV.o iV.o (by omega)).mono ?_;rintro e w5 ⟨rfl,x0,x1,t5,k5⟩;go_wp2_with fail
   first|go_end0|((try simp only[Exit.inBlock,Exit.then]);refine bX (dz rfl _ _ _) rfl ?_)
   first|exact⟨rfl,x0,x1,t5,qY.o.trans k5⟩|exact⟨rfl,⟨x0,x1,t5⟩,qY.o.trans k5⟩
  have N74:Hid _:=h74;clear h74;by_cases h75:f=75
  ·subst h75;have hn:=I6.o;have hz:=Jp.o;have hm:=I5.o;have hok:=iV.o;have hct:=Jn.o;have hb:=Jo.o;have hE:=HE.o;have hX:d.sequence 75 (ev.drop 5) ct=d.erase 75 (z:Int):=by unfold DT.sequence;rw[ai (by decide),hn,hz];rfl
   rw[hX]at hE;subst hE;clear hn hz hm hok hct hb;clear hX;skip;go_wp2_with fail;refine(Bl tb v0 v1 fed done d 75 (z:Int) _ rV.o iV.o (by omega)).mono ?_;rintro e w5 ⟨rfl,x0,x1,t5,k5⟩;go_wp2_with fail
   first|go_end0|((try simp only[Exit.inBlock,Exit.then]);refine bX (dz rfl _ _ _) rfl ?_)
   first|exact⟨rfl,x0,x1,t5,qY.o.trans k5⟩|exact⟨rfl,⟨x0,x1,t5⟩,qY.o.trans k5⟩
  have N75:Hid _:=h75;clear h75;by_cases h114:f=114
  ·subst h114;have hn:=I6.o;have hz:=Jp.o;have hm:=I5.o;have hok:=iV.o;have hct:=Jn.o;have hb:=Jo.o;have hE:=HE.o;obtain⟨q,hq⟩:∃q:Nat,DT.qO (ev.drop 5) ct 1 0=(q:Int):=⟨(DT.qO (ev.drop 5) ct 1 0).toNat,by have:=(rC hb ct 1 0 (by omega) (by omega)).1;omega⟩;have bq:q≤70000:=by have:=rC hb ct 1 0 (by omega) (by omega);omega
   have Q0:∀u,Calls prog 129 #[.agg (aA ev),.int .i64 1,.int .i64 0] u fun e w'=>e= .returned (.int .i64 (q:Int))∧Sm u w':=fun u=>by rw[←hq];exact pg ev ct 1 0 u hl hct (by omega) hc16
   have HQ0:Hid _:=Q0;have hX:d.sequence 114 (ev.drop 5) ct=d.region (n:Int) (q:Int):=by unfold DT.sequence;rw[ai (by decide),hn,hz,hq];rfl
   rw[hX]at hE;subst hE;clear hn hz hm hok hct hb;clear hX hq Q0;go_wp2_with (refine fA _ rfl (.tmp 3) rfl w.heap.size ev rfl hl 46 (0,0) Co.o ?_);refine(HQ0.o _).mono ?_;rintro e w5 ⟨rfl,s5⟩;go_wp2_with fail;refine(Gy tb v0 v1 fed done d (n:Int) (q:Int) _ (rV.o.sm s5) iV.o (by omega) (by omega)).mono ?_;rintro e w6 ⟨rfl,t6,k6⟩;go_wp2_with fail
   first|go_end0|((try simp only[Exit.inBlock,Exit.then]);refine bX (dz rfl _ _ _) rfl ?_)
   first|exact⟨rfl,v0,v1,t6,(qY.o.trans (Sm.ch s5)).trans k6⟩|exact⟨rfl,⟨v0,v1,t6⟩,(qY.o.trans (Sm.ch s5)).trans k6⟩
  have N114:Hid _:=h114;clear h114;by_cases h104:f=104
  ·subst h104;have hn:=I6.o;have hz:=Jp.o;have hm:=I5.o;have hok:=iV.o;have hct:=Jn.o;have hb:=Jo.o;have hE:=HE.o;have hX:d.sequence 104 (ev.drop 5) ct=if(z:Int)=4 then{d with t:={d.t with insert:=true}} else d:=by unfold DT.sequence;rw[ai (by decide),hn,hz];rfl
   rw[hX]at hE;clear hn hz hm hok hct hb;clear hX;by_cases h4:(z:Int)=4
   ·rw[ak h4]at hE;subst hE;have b4:((z:Int)==4)=true:=by simp[h4]
    have HH4:Hid _:=h4;clear h4;go_wp2_with (refine aS rfl 4 dZ (.tmp 201) _ rfl rfl {d with t:={d.t with insert:=true}} 19 (.bool true) rfl rfl rfl rfl rV.o htl (by decide) rfl rfl rfl ?_);intro u8 t8 k8;go_wp2_with fail
    first|go_end0|((try simp only[Exit.inBlock,Exit.then]);refine bX (dz rfl _ _ _) rfl ?_)
    first|exact⟨rfl,v0,v1,t8,qY.o.trans k8⟩|exact⟨rfl,⟨v0,v1,t8⟩,qY.o.trans k8⟩
   ·rw[ai h4]at hE;subst hE;have b4:((z:Int)==4)=false:=by simp;omega
    have HH4:Hid _:=h4;clear h4;go_wp2_with fail
    first|go_end0|((try simp only[Exit.inBlock,Exit.then]);refine bX (dz rfl _ _ _) rfl ?_)
    first|exact⟨rfl,v0,v1,rV.o,qY.o⟩|exact⟨rfl,⟨v0,v1,rV.o⟩,qY.o⟩
  have N104:Hid _:=h104;clear h104;by_cases h108:f=108
  ·subst h108;have hn:=I6.o;have hz:=Jp.o;have hm:=I5.o;have hok:=iV.o;have hct:=Jn.o;have hb:=Jo.o;have hE:=HE.o;have hX:d.sequence 108 (ev.drop 5) ct=if(z:Int)=4 then{d with t:={d.t with insert:=false}} else d:=by unfold DT.sequence;rw[ai (by decide),hn,hz];rfl
   rw[hX]at hE;clear hn hz hm hok hct hb;clear hX;by_cases h4:(z:Int)=4
   ·rw[ak h4]at hE;subst hE;have b4:((z:Int)==4)=true:=by simp[h4]
    have HH4:Hid _:=h4;clear h4;go_wp2_with (refine aS rfl 4 dZ (.tmp 201) _ rfl rfl {d with t:={d.t with insert:=false}} 19 (.bool false) rfl rfl rfl rfl rV.o htl (by decide) rfl rfl rfl ?_);intro u8 t8 k8;go_wp2_with fail
    first|go_end0|((try simp only[Exit.inBlock,Exit.then]);refine bX (dz rfl _ _ _) rfl ?_)
    first|exact⟨rfl,v0,v1,t8,qY.o.trans k8⟩|exact⟨rfl,⟨v0,v1,t8⟩,qY.o.trans k8⟩
   ·rw[ai h4]at hE;subst hE;have b4:((z:Int)==4)=false:=by simp;omega
    have HH4:Hid _:=h4;clear h4;go_wp2_with fail
    first|go_end0|((try simp only[Exit.inBlock,Exit.then]);refine bX (dz rfl _ _ _) rfl ?_)
    first|exact⟨rfl,v0,v1,rV.o,qY.o⟩|exact⟨rfl,⟨v0,v1,rV.o⟩,qY.o⟩
  have N108:Hid _:=h108;clear h108;by_cases h103:f=103
  ·subst h103;have hn:=I6.o;have hz:=Jp.o;have hm:=I5.o;have hok:=iV.o;have hct:=Jn.o;have hb:=Jo.o;have hE:=HE.o;obtain⟨c,hc,hcc⟩:=hok.cl;obtain⟨T,hT⟩:∃T,T=DT.lu d.tb (z:Int) c:=⟨_,rfl⟩;have lT:T.length=40:=by rw[hT,DT.vo];exact htl
   have hX:d.sequence 103 (ev.drop 5) ct= {d with tb:=T}:=by unfold DT.sequence;rw[ai (by decide),hn,hz,hT, ←show d.t.col.toNat=c by omega];rfl
   rw[hX]at hE;subst hE;have HC:Hid _:=hc;have Ue:Hid _:=hT;clear hn hz hm hok hct hb;clear hX hc hT;go_wp2_with fail;go_loopw [7] (fun i wr=>∃k:Nat,k≤40∧i= .int .i64 k∧bR wr tb v0 v1 fed done {d with tb:=T.take k++d.tb.drop k}∧Ch (· =tb) w wr) (fun i _=>40-(intOf i).toNat)
   case atStart=>exact⟨0,dx _,rfl,rV.o,qY.o⟩
   case round=>
    obtain⟨k,hk,rfl,tr,kr⟩:=hrel;have c5:wr.cell? ⟨tb,5,none⟩=some (.int .i64 (c:Int)):=by rw[←HC.o];exact tr.oz
    have yZ:Hid _:=tr;have Cq:Hid _:=kr;clear tr kr;by_cases hlt:k<40
    ·have ik:(k:Int)<40:=by omega
     have vk:IntKind.i64.wrap ((k:Int)+1)=(k:Int)+1:=bD _ (by omega);have hjk:47+k<88:=by omega
     obtain⟨L,hL⟩:∃L,L=T.take k++d.tb.drop k:=⟨_,rfl⟩;have lTk:L.length=40:=by rw[hL];simp[lT,htl];omega
     have hset:=xh v0 v1 fed done {d with tb:=L} k false (by show k<L.length;omega);have Jk:Hid _:=hset;have hTR:=yZ.o;rw[←hL]at hTR;have yZ:Hid _:=hTR;clear hset hTR;by_cases z3:(z:Int)=3
     ·have hst:T.take (k+1)++d.tb.drop (k+1)=L.set k false:=by rw[hL];exact Su (by omega) (by omega) (by rw[Ue.o];unfold DT.lu;rw[ak z3,CW,ak (by omega)])
      have ni:Hid _:=hst;have HZ3:Hid _:=z3;have b3:((z:Int)==3)=true:=by simp[z3]
      clear hst z3 hL;go_wp2_with (refine aS rfl 4 dZ (.tmp 166) _ rfl rfl {({d with tb:=L}:DT)with tb:=L.set k false} (47+k) (.bool false) rfl rfl rfl rfl yZ.o lTk hjk Jk.o rfl rfl ?_);intro u8 t8 k8;go_wp2_with fail;go_roundw
      case rel=>exact⟨k+1,by omega,by go_num,by rw[ni.o];exact t8,Cq.o.trans k8⟩
      case measure=>simp[intOf];omega
     ·have b3:((z:Int)==3)=false:=by simp[z3]
      by_cases z0:(z:Int)=0
      ·have b0:((z:Int)==0)=true:=by simp[z0]
       by_cases hkc:k=c
       ·have hst:T.take (k+1)++d.tb.drop (k+1)=L.set k false:=by rw[hL];exact Su (by omega) (by omega) (by rw[Ue.o];unfold DT.lu;rw[ai z3,ak z0,hkc,List.getElem?_set_self (by omega)])
        have ni:Hid _:=hst;have bk:((k:Int)==(c:Int))=true:=by simp[hkc]
        have aaJ:Hid _:=z0;have HZ3:Hid _:=z3;have HKC:Hid _:=hkc;clear hst z0 z3 hkc hL;go_wp2_with (refine aS rfl 4 dZ (.tmp 166) _ rfl rfl {({d with tb:=L}:DT)with tb:=L.set k false} (47+k) (.bool false) rfl rfl rfl rfl yZ.o lTk hjk Jk.o rfl rfl ?_);intro u8 t8 k8;go_wp2_with fail;go_roundw
        case rel=>exact⟨k+1,by omega,by go_num,by rw[ni.o];exact t8,Cq.o.trans k8⟩
        case measure=>simp[intOf];omega
       ·have hst:T.take (k+1)++d.tb.drop (k+1)=L:=by rw[hL];exact Mm (by omega) (by omega) (by rw[Ue.o];unfold DT.lu;rw[ai z3,ak z0,List.getElem?_set_ne (by omega)])
        have ni:Hid _:=hst;have bk:((k:Int)==(c:Int))=false:=by simp;omega
        have aaJ:Hid _:=z0;have HZ3:Hid _:=z3;have HKC:Hid _:=hkc;clear hst z0 z3 hkc hL;go_wp2_with fail;go_roundw
        case rel=>exact⟨k+1,by omega,by go_num,by rw[ni.o];exact yZ.o,Cq.o⟩
        case measure=>simp[intOf];omega
      ·have b0:((z:Int)==0)=false:=by simp;omega
       have hst:T.take (k+1)++d.tb.drop (k+1)=L:=by rw[hL];exact Mm (by omega) (by omega) (by rw[Ue.o];unfold DT.lu;rw[ai z3,ai z0])
       have ni:Hid _:=hst;have aaJ:Hid _:=z0;have HZ3:Hid _:=z3;clear hst z0 z3 hL;go_wp2_with fail;go_roundw
       case rel=>exact⟨k+1,by omega,by go_num,by rw[ni.o];exact yZ.o,Cq.o⟩
       case measure=>simp[intOf];omega
    ·have ik:decide ((k:Int)<40)=false:=by simp;omega
     obtain rfl:k=40:=by omega
     have hTR:=yZ.o;rw[l6 (by omega),qB (by omega),gp]at hTR;have Gi:Hid _:=hTR;clear hTR;go_wp2_with fail
     first|go_end0|((try simp only[Exit.inBlock,Exit.then]);refine bX (dz rfl _ _ _) rfl ?_)
     first|exact⟨rfl,v0,v1,Gi.o,Cq.o⟩|exact⟨rfl,⟨v0,v1,Gi.o⟩,Cq.o⟩
  have N103:Hid _:=h103;clear h103;by_cases h109:f=109
  ·subst h109;have hn:=I6.o;have hz:=Jp.o;have hm:=I5.o;have hok:=iV.o;have hct:=Jn.o;have hb:=Jo.o;have hE:=HE.o;have hX:d.sequence 109 (ev.drop 5) ct=d.qf ((ev.drop 5).take ct):=by unfold DT.sequence;rw[ai (by decide),hn,hz];rfl
   rw[hX]at hE;subst hE;have EC4:Hid (∀x:World,x.heap[w.heap.size]? =some (.cells (aA ev) 46 (0,0))→x.cell? ⟨w.heap.size,4,none⟩=some (.int .i64 (ct:Int))):=fun x hx=>(bG x _ _ _ _ _ hx).trans (by have h9:=jo ev 4 (by omega);rw[hct]at h9;rw[aA];simpa using h9);have PN:∀k:Nat,k<ct→∃p:Int,(0≤p∧p≤70000)∧p=TS.amount ((ev.drop 5).getD k 0)∧∀u,Calls prog 129 #[.agg (aA ev),.int .i64 (k:Int),.int .i64 0] u fun e w'=>e= .returned (.int .i64 p)∧Sm u w':=fun k hk=>⟨_,rC hb ct k 0 (by omega) (by omega),by unfold DT.qO TS.amount;simp only[show¬ct≤k by omega,false_or];split<;>omega,fun u=>pg ev ct k 0 u hl hct (by omega) hc16⟩;have HPN:Hid _:=PN;have hlp:(ev.drop 5).length=16:=by simp[hl]
   clear hn hz hm hok hct hb;clear hX PN;go_wp2_with fail;go_loopw [8] (fun i wr=>∃k:Nat,k≤ct∧i= .int .i64 k∧bR wr tb v0 v1 fed done (d.qf ((ev.drop 5).take k))∧wr.heap[w.heap.size]? =some (.cells (aA ev) 46 (0,0))∧Ch (· =tb) w wr) (fun i _=>ct-(intOf i).toNat)
   case atStart=>exact⟨0,dx _,rfl,rV.o,Co.o,qY.o⟩
   case round=>
    obtain⟨k,hk,rfl,tr,gr,kr⟩:=hrel;have c4:=EC4.o _ gr;have yZ:Hid _:=tr;have Je:Hid _:=gr;have Cq:Hid _:=kr;clear tr gr kr;by_cases hlt:k<ct
    ·have ik:(k:Int)<(ct:Int):=by omega
     have vk:IntKind.i64.wrap ((k:Int)+1)=(k:Int)+1:=bD _ (by omega);obtain⟨p,bp,hp,P0⟩:=HPN.o k hlt;have HP0:Hid _:=P0;obtain⟨E,hE⟩:∃E,E=d.qf ((ev.drop 5).take k):=⟨_,rfl⟩;have lE:E.tb.length=40:=by rw[hE,Rl];exact htl
     have hst:d.qf ((ev.drop 5).take (k+1))= {E with t:={E.t with pen:=TS.turn E.t.pen p}}:=by rw[o7 (by omega),Ke, ←hE,hp];simp only[List.getD,eG (show k<(ev.drop 5).length by omega),Option.getD_some];rfl
     have ni:Hid _:=hst;have hTR:=yZ.o;rw[←hE]at hTR;have Gi:Hid _:=hTR;clear hst hTR P0 hp hE yZ;go_wp2_with fail;have T4:bR ({wr with drawn:=wr.drawn+1}:World) tb v0 v1 fed done E:=Gi.o.sm ((Ch.refl _ _).drewN 1);have S4:({wr with drawn:=wr.drawn+1}:World).heap[w.heap.size]? =some (.cells (aA ev) 46 (0,0)):=Je.o;have K4:Ch (· =tb) w ({wr with drawn:=wr.drawn+1}:World):=Cq.o.drewN 1;refine dX (S:=fun x=>x.heap[w.heap.size]? =some (.cells (aA ev) 46 (0,0))) aX ?_;refine dW 0 1 S4 ?_;simp only[ag,af];refine aj 7 S4 ?_ (v:=.agg (eF ev).toArray) (hy:=(kz (by rfl) 46 (.tmp 3) rfl w.heap.size 0 rfl (eF ev) _ (fun x h=>fK h) underlying46 rfl (by rw[show(eF ev).length=21 by simp[eF,hl]];exact gZ)));refine dH 8 2 3 S4 ?_;simp only[ag,af];refine dW 4 5 S4 ?_;simp only[ag,af];refine lQ 6 9 ?_ ?_
     ·refine dI ?_;refine uq 181 (.tmp 180) rfl rfl tb 7 E.t.pen rfl (T4.range 7 _ rfl) ?_;refine⟨S4,?_⟩
      try simp only[ag,af]
      refine av 9 ?_;refine dN (vs:=[.agg (eF ev).toArray,.int .i64 (k:Int),.int .i64 0]) (HP0.o _) ?_;rintro v5 w5 ⟨rfl,s5⟩;have S5:=(s5.block _ (aK S4) id).trans S4;have T5:=T4.sm s5;have K5:=K4.trans (Sm.ch s5);refine⟨S5,?_⟩
      try simp only[ag,af]
      refine av 10 ?_;refine dN (vs:=[.agg (aW E.t.pen),.int .i64 p]) (Gx E.t.pen p _ bp) ?_;rintro v6 w6 ⟨rfl,s6⟩;have S6:=(s6.block _ (aK S5) id).trans S5;have T6:=T5.sm s6;have K6:=K5.trans (Sm.ch s6);refine⟨S6,?_⟩
      try simp only[ag,af]
      refine ay 11 12 13 14 S6 ?_;simp only[ag,af];refine av 15 ?_;refine gN 80 (.tmp 189) (.tmp 185) rfl rfl (v0':=v0) (v1':=v1) (kT:=fed) (done':=done) (d':={E with t:={E.t with pen:=TS.turn E.t.pen p}}) 7 (dG (TS.turn E.t.pen p)) eH rfl rfl (jq _) T6 lE (by simp[dG]) rfl T6.h0 T6.h1 ?_;intro u7 t7 k7;have S7:=(k7.block _ (aK S6) (by omega)).trans S6;have K7:=K6.trans k7;refine⟨S7,?_⟩
      try simp only[ag,af]
      refine aC ?_;have xq:Hid _:=t7;have WH:Hid _:=S7;have Al:Hid _:=K7;clear t7 k7 S7 K7 S4 S5 S6 T4 T5 T6 K4 K5 K6 s5 s6;go_wp2_with fail;go_roundw
      case rel=>exact⟨k+1,by omega,by go_num,by rw[ni.o];exact xq.o,WH.o,Al.o⟩
      case measure=>simp[intOf];omega
     ·refine dI ?_;refine dN (vs:=[.agg (eF ev).toArray,.int .i64 (k:Int),.int .i64 0]) (HP0.o _) ?_;rintro v5 w5 ⟨rfl,s5⟩;have S5:=(s5.block _ (aK S4) id).trans S4;have T5:=T4.sm s5;have K5:=K4.trans (Sm.ch s5);refine⟨S5,?_⟩
      try simp only[ag,af]
      refine av 6 ?_;refine uq 181 (.tmp 180) rfl rfl tb 7 E.t.pen rfl (T5.range 7 _ rfl) ?_;refine⟨S5,?_⟩
      try simp only[ag,af]
      refine av 10 ?_;refine dN (vs:=[.agg (aW E.t.pen),.int .i64 p]) (Gx E.t.pen p _ bp) ?_;rintro v6 w6 ⟨rfl,s6⟩;have S6:=(s6.block _ (aK S5) id).trans S5;have T6:=T5.sm s6;have K6:=K5.trans (Sm.ch s6);refine⟨S6,?_⟩
      try simp only[ag,af]
      refine ay 11 12 13 14 S6 ?_;simp only[ag,af];refine av 15 ?_;refine gN 80 (.tmp 189) (.tmp 185) rfl rfl (v0':=v0) (v1':=v1) (kT:=fed) (done':=done) (d':={E with t:={E.t with pen:=TS.turn E.t.pen p}}) 7 (dG (TS.turn E.t.pen p)) eH rfl rfl (jq _) T6 lE (by simp[dG]) rfl T6.h0 T6.h1 ?_;intro u7 t7 k7;have S7:=(k7.block _ (aK S6) (by omega)).trans S6;have K7:=K6.trans k7;refine⟨S7,?_⟩
      try simp only[ag,af]
      refine aC ?_;have xq:Hid _:=t7;have WH:Hid _:=S7;have Al:Hid _:=K7;clear t7 k7 S7 K7 S4 S5 S6 T4 T5 T6 K4 K5 K6 s5 s6;go_wp2_with fail;go_roundw
      case rel=>exact⟨k+1,by omega,by go_num,by rw[ni.o];exact xq.o,WH.o,Al.o⟩
      case measure=>simp[intOf];omega
    ·have ik:decide ((k:Int)<(ct:Int))=false:=by simp;omega
     obtain rfl:k=ct:=by omega
     go_wp2_with fail
     first|go_end0|((try simp only[Exit.inBlock,Exit.then]);refine bX (dz rfl _ _ _) rfl ?_)
     first|exact⟨rfl,v0,v1,yZ.o,Cq.o⟩|exact⟨rfl,⟨v0,v1,yZ.o⟩,Cq.o⟩
  have N109:Hid _:=h109;clear h109;have h64:=N64.o;have h80:=N80.o;have h88:=N88.o;have h76:=N76.o;have h77:=N77.o;have h83:=N83.o;have h84:=N84.o;have h74:=N74.o;have h75:=N75.o;have h114:=N114.o;have h104:=N104.o;have h108:=N108.o;have h103:=N103.o;have h109:=N109.o;have hn:=I6.o;have hz:=Jp.o;have hm:=I5.o;have hok:=iV.o;have hct:=Jn.o;have hb:=Jo.o;have hE:=HE.o;have hX:d.sequence f (ev.drop 5) ct=d:=by unfold DT.sequence;rw[ai (by rw[TM.o];decide)];unfold DT.edit;rw[ai h64,ai h80,ai h88,ai h76,ai h77,ai h83,ai h84,ai (fun h=>h.elim h74 h75),ai h114,ai h103,ai h109,ai (fun h=>h.elim h104 h108)]
  rw[hX]at hE;subst hE;have b64:(f==64)=false:=by simp;omega
  have b80:(f==80)=false:=by simp;omega
  have b88:(f==88)=false:=by simp;omega
  have b76:(f==76)=false:=by simp;omega
  have b77:(f==77)=false:=by simp;omega
  have b83:(f==83)=false:=by simp;omega
  have b84:(f==84)=false:=by simp;omega
  have b74:(f==74)=false:=by simp;omega
  have b75:(f==75)=false:=by simp;omega
  have b114:(f==114)=false:=by simp;omega
  have b103:(f==103)=false:=by simp;omega
  have b109:(f==109)=false:=by simp;omega
  have b104:(f==104)=false:=by simp;omega
  have b108:(f==108)=false:=by simp;omega
  clear hn hz hm hok hct hb;clear hX;go_wp2_with fail
  first|go_end0|((try simp only[Exit.inBlock,Exit.then]);refine bX (dz rfl _ _ _) rfl ?_)
  first|exact⟨rfl,v0,v1,rV.o,qY.o⟩|exact⟨rfl,⟨v0,v1,rV.o⟩,qY.o⟩
end Go.Proofs.YtheibfffilomcaaGreatDoor
