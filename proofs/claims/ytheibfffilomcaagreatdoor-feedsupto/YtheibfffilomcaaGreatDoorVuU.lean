import Derived.Test.YtheibfffilomcaaGreatDoorTmaU
import Derived.Test.YtheibfffilomcaaGreatDoorEqeU
import Derived.Test.YtheibfffilomcaaGreatDoorVybU
import Derived.Test.YtheibfffilomcaaGreatDoorGbU
set_option linter.all false
set_option maxRecDepth 100000
set_option maxHeartbeats 4000000
namespace Go.Proofs.YtheibfffilomcaaGreatDoor
open Go.RowKit Go.Proofs.Tryz
variable {w w':World} {bb:Nat} {vi vm:Value} {I:List Value} {M:List Int} {E:List (Value × Int)} {nx:Int}
def evM (m:Int):List Int:=[m,m,0,0,0]++z16
theorem flat_get(E:List (List Int))(hE:∀e∈E,e.length=21)(i:Nat):E.flatten[i]? =(E[i / 21]?).bind (·[i % 21]?):=by
 induction E generalizing i with
 |nil=>simp
 |cons e E ih=>
  have he:=hE e (by simp);rw[List.flatten_cons];by_cases h:i<21
  ·rw[qA (by omega),show i / 21=0 by omega,show i % 21=i by omega];rfl
  ·rw[og (by omega),he,ih (fun x hx=>hE x (by simp[hx])),show i / 21=(i-21) / 21+1 by omega,show i % 21=(i-21) % 21 by omega,F5]
theorem DF(l:List Int)(i:Nat):(eF l)[i]? =(l[i]?).map (Value.int .i64):=by simp[eF]
structure zX (w:World) (bb:Nat) (vi vm:Value) (I:List Value) (M:List Int) (E:List (Value × Int)) (nx:Int):Prop where
 c0:w.cell? ⟨bb,0,none⟩=some (.slice none 0 0)
 c1:w.cell? ⟨bb,1,none⟩=some (.slice none 0 0)
 c2:w.cell? ⟨bb,2,none⟩=some vi
 c3:w.cell? ⟨bb,3,none⟩=some vm
 c4:w.cell? ⟨bb,4,none⟩=some (.slice none 0 0)
 c5:w.cell? ⟨bb,5,none⟩=some (.slice none 0 0)
 c6:w.cell? ⟨bb,6,none⟩=some (.int .i64 nx)
 f:∀j,j<7→w.frozen? ⟨bb,j,none⟩=false
 oi:w.ownsRow (bb+1) 41 1 vi I.length I
 om:gI w (bb+1) vm M
 ent:∀x∈E,∃p,p≤1000000000∧uJ w (bb+1) x.1 (List.replicate p (evM x.2))
theorem zX.lt{w:World}{bb:Nat}{vi vm:Value}{I:List Value}{M:List Int}{E:List (Value × Int)}{nx:Int}(h:zX w bb vi vm I M E nx):bb<w.heap.size:=F4 _ _ h.c0
theorem zX.grown(h:zX w bb vi vm I M E nx){row:Option Nat}(hg:w.grownBy w' row)(hbb:some bb≠row)(hi:vi.ownBlock=none∨vi.ownBlock≠row)(hm:vm.ownBlock=none∨vm.ownBlock≠row)(hE:∀x∈E,x.1.ownBlock=none∨x.1.ownBlock≠row):zX w' bb vi vm I M E nx:=by
 have hbk:=hg.block bb h.lt hbb
 refine⟨(dA hbk).trans h.c0,(dA hbk).trans h.c1,(dA hbk).trans h.c2,(dA hbk).trans h.c3,(dA hbk).trans h.c4,(dA hbk).trans h.c5,(dA hbk).trans h.c6,
  fun j hj=>(CY hbk).trans (h.f j hj),h.oi.kept hg hi,xU h.om hg hm,fun x hx=>?_⟩
 obtain⟨p,hp,hl⟩:=h.ent x hx;exact⟨p,hp,xU hl hg (hE x hx)⟩
theorem zX.below(h:zX w bb vi vm I M E nx)(hb:Below w.heap.size w w'):zX w' bb vi vm I M E nx:=by
 have hg:w.grownBy w' none:=⟨hb.os,hb.tape,hb.output,hb.size,fun k hk _=>hb.block k hk⟩;have hz:∀v:Value,v.ownBlock=none∨v.ownBlock≠none:=fun v=>by cases v.ownBlock<;>simp
 exact h.grown hg (by simp) (hz vi) (hz vm) (fun x _=>hz x.1)
theorem UK{base:Nat}{v:Value}{E:List (List Int)}(h:uJ w base v E)(hE:∀e∈E,e.length=21):
 ∃ao cap,v= .slice ao E.length cap∧∀j e,E[j]? =some e→∃g,ao=some ⟨g,0,none⟩∧g<w.heap.size∧w.rangeAt g (j*21) (eF e):=by
 obtain⟨h1,h2⟩:=h;rcases h2 with⟨rfl,h0⟩|⟨g,cap,cur,rfl,_,hg,hn,_,hcs,htake⟩
 ·refine⟨none,0,by rw[h0],fun j e hj=>?_⟩;have:=(gJ.1 hj).1;omega
 ·refine⟨_,cap,rfl,fun j e hj=>⟨g,rfl,(wK.1 hg).1,fun i v hv=>?_⟩⟩;have hjl:=(gJ.1 hj).1;have he:e.length=21:=hE e (iH hj);have hi:i<21:=by have:=(gJ.1 hv).1;rw[jk,he]at this;exact this
  rw[bG _ _ _ _ _ _ hg];have h0:(cur.toList.take (E.length*21))[j*21+i]? =(eF E.flatten)[j*21+i]? :=by rw[htake]
  rw[mJ,Array.getElem?_toList,DF,flat_get _ hE,show(j*21+i) / 21=j by omega,show(j*21+i) % 21=i by omega,hj,ak (by omega)]at h0;rw[h0];rw[DF]at hv;simpa using hv
theorem Fh{g off:Nat}{cs:List Value}(h:w'.heap[g]? =w.heap[g]?)(hr:w.rangeAt g off cs):w'.rangeAt g off cs:=fun i v hv=>(dA h).trans (hr i v hv)
def OU:Prop:=∀(tb:Nat) (v0 v1:Value) (fed:ByteArray) (done:Nat) (d:DT) (ev:List Int) (w:World),bR w tb v0 v1 fed done d→d.Ok→jC ev→d.ids≤1000000000→Calls prog 30 #[.pointer (some ⟨tb,0,none⟩),.agg (aA ev)] w fun e w'=>e= .returned (.tuple #[])∧∃v0' v1',bR w' tb v0' v1' fed done (d.does ev)∧Ch (· =tb) w w'
def OT (w:World) (tb:Nat) (fed:ByteArray) (rows ah:Nat):Prop:=∃v0 v1,bR w tb v0 v1 fed (qd (bl fed)).length ((DT.fresh rows ah 0).jw (qd (bl fed)))
def Bo (w:World) (tb:Nat):Nat:=match w.cell? ⟨tb,3,none⟩with|some (.int _ n)=>n.toNat|_=>0
theorem YJ:(prog.info? 9).map (·.size)=some 1:=by kernel_rfl
theorem IW{ops:Array Oper}{rest:List Oper}{o:Oper}{a:Act}{u:World}{Q:Exit→Act→World→Prop}(hgd:o.guard=none)(ty:TypeId)(hsz:(prog.info? ty).map (·.size)=some 1)(x y:Operand)(ho:o.op= .store ty x y)(hd:o.dst=none){tb:Nat}{v0 v1:Value}{fed:ByteArray}{done:Nat}{d:DT}(kT:ByteArray)(done':Nat)(j:Nat)(v:Value)(hx:a.eval x= .pointer (some ⟨tb,j,none⟩))(hy:a.eval y=v)(hv:v.cells= #[v])(h1:v.oneCell'=true)(ht:bR u tb v0 v1 fed done d)(htl:d.tb.length=40)(hj:j<88)(hL:(rP v0 v1 fed done d).set j v=rP v0 v1 kT done' d)(h:∀u',bR u' tb v0 v1 kT done' d→Ch (· =tb) u u'→wpList prog ops Q rest a u'):wpList prog ops Q (o::rest) a u:=
 oq hgd fun _ hK=>sN ty hsz x y ho hd j v hx hy hv h1 ht htl hj hL ht.h0 ht.h1 (fun u' t c=>hK _ _ (h u' t c))
theorem Br(rows ah:Nat)(hr:1≤rows∧rows≤12)(hc:1≤ah∧ah≤40):(DT.fresh rows ah 0).Ok∧(DT.fresh rows ah 0).abs=TS.fresh rows ah:=by exact⟨DT.Ok.fresh 0 hr hc (Int.le_refl 0),DT.vH rows ah 0 hc.2⟩
theorem M4(DOES:OU)(tb:Nat)(fed s:ByteArray)(rows ah:Nat)(w:World)(hr:1≤rows∧rows≤12)(hc:1≤ah∧ah≤40)(h:OT w tb fed rows ah)(hs:fed.size+s.size≤1048576):Calls prog 11 #[.pointer (some ⟨tb,0,none⟩),.string s] w fun e w'=>e= .returned (.tuple #[])∧OT w' tb (fed++s) rows ah∧Ch (· =tb) w w':=by
 obtain⟨v0,v1,ht⟩:=h;have hF:=Br rows ah hr hc;obtain⟨N0,hN0⟩:∃N,N=(qd (bl fed)).length:=⟨_,rfl⟩;obtain⟨d0,hd0⟩:∃d,d=DT.fresh rows ah 0:=⟨_,rfl⟩;rw[←hN0, ←hd0]at ht;rw[←hd0]at hF;obtain⟨T,hT⟩:∃T,T=fed++s:=⟨_,rfl⟩;rw[←hT];obtain⟨E,hE⟩:∃E,E=qd (bl T):=⟨_,rfl⟩;have hTs:T.size≤1048576:=by rw[hT,iC];exact hs
 obtain⟨E2,hE2⟩:=EO (bl fed) (bl s);have hEE:E=qd (bl fed)++E2:=by rw[hE,hT,aL,hE2]
 have hNE:N0≤E.length:=by rw[hEE,hN0,fU];omega
 have hE0:qd (bl fed)=E.take N0:=by rw[hEE,hN0,uu]
 rw[hE0]at ht;have hin:∀ev∈E,Tu ev:=by rw[hE];exact GI _ (sZ T)
 have hlen:(nU false (bl T)).length≤2*T.size+1:=by have h1:=decode_len (bl T);rw[cZ]at h1;rw[oL];unfold decode at h1;rw[fU]at h1;omega
 have hbd:∀x∈nU false (bl T),0≤x∧x≤10000000:=by rw[oL];intro x hx;have:=Mh (bl T) .zero RS.Sc.zero (sZ T) x hx;exact⟨this.1,by have:=this.2.1;omega⟩
 have hEl:E.length≤3000000:=by have:=(Wl .zero 0 (by intro x hx;cases hx) (bN 0) _ hbd).2.2.2;rw[hE];unfold qd;omega
 have QJ:∀ev∈E,ev.length=21:=fun ev he=>(hin ev he).1.len;have hok:∀k,(d0.jw (E.take k)).Ok:=fun k=>(DT.Bn _ hF.1 (fun ev he=>hin ev (AL he))).1;have ab4:∀k,(d0.jw (E.take k)).ids≤1000000000:=fun k=>by
  have:=DT.Gv (E.take k) d0;have e0:d0.ids=0:=by rw[hd0];rfl
  have:=List.length_take_le' k E;omega
 have Bw:tb<w.heap.size:=ht.lt;have htl:=(hok N0).tl;have c2:=ht.LJ;have HT:Hid _:=ht;have Ue:Hid _:=hT;have WE:Hid _:=hE;have iV:Hid _:=hok;have adS:Hid _:=ab4;have Dc:Hid _:=hin;have H21:Hid _:=QJ;have HD0:Hid _:=hd0;have Z8:Hid ((RM.zero.evs (nU false (bl T))).2=E):=by show _=_;rw[hE];rfl
 clear ht hT hE hok ab4 hin QJ hd0 hE0 hEE hE2 hN0 hF;go_enter func11,ntmps11;go_wp2_with (refine IW rfl 9 YJ (.tmp 13) _ rfl rfl T N0 2 (.string T) rfl (by rw[Ue.o];rfl) rfl rfl HT.o htl (by decide) rfl ?_;intro u1 t1 k1;have e2:=t1.LJ;have HT1:Hid _:=t1;have kR:Hid _:=k1;clear t1 k1 c2);refine(MW T false _ (by omega)).mono ?_;rintro e w2 ⟨vc,rfl,l2,b2⟩;obtain⟨D,hD⟩:∃D,D=nU false (bl T):=⟨_,rfl⟩;rw[←hD]at l2 hlen hbd;have Z9:Hid ((RM.zero.evs D).2=E):=by show _=_;rw[hD];exact Z8.o
 clear hD Z8;obtain⟨a2,q2,rfl,hq2,sl2,_⟩:=l2.sl;have HT2:Hid (bR w2 tb v0 v1 T N0 (d0.jw (E.take N0))):=HT1.o.sm (Ch.of_below b2);have mD:Hid (Ch (· =tb) w w2):=kR.o.trans (Sm.ch (Ch.of_below b2));clear b2 l2 HT1 kR HT e2;go_wp2_with fail;refine(Rt a2 D.length q2 D _ rfl (by omega) hbd sl2).mono ?_;rintro e w3 ⟨ve,rfl,ev3,b3⟩;rw[Z9.o]at ev3;obtain⟨ae,qe,rfl,hrd⟩:=UK ev3 H21.o;have HT3:Hid (bR w3 tb v0 v1 T N0 (d0.jw (E.take N0))):=HT2.o.sm (Ch.of_below b3);have Ep:Hid (Ch (· =tb) w w3):=mD.o.trans (Sm.ch (Ch.of_below b3));have ajf:=b3.size;have hsz2:=mD.o.size;have HRD:Hid (∀j e,E[j]? =some e→∃g,ae=some ⟨g,0,none⟩∧g<w3.heap.size∧tb<g∧w3.rangeAt g (j*21) (eF e)):=by
  intro j e hj;obtain⟨g,h1,h2,h3⟩:=hrd j e hj;refine⟨g,h1,h2,?_,h3⟩;rcases ev3.2 with⟨e0,_⟩|⟨g',cap,cur,e0,hgb,_⟩
  ·simp only[Value.slice.injEq]at e0;rw[e0.1]at h1;cases h1
  ·simp only[Value.slice.injEq]at e0;rw[e0.1]at h1;cases h1;have:=HT2.o.lt;omega
 clear b3 ev3 hrd HT2 mD sl2 hlen hbd;go_wp2_with fail;go_loopw [] (fun wr=>∃(k:Nat) (x0 x1:Value),k≤E.length∧bR wr tb x0 x1 T k (d0.jw (E.take k))∧Ch (· =tb) w3 wr) (fun wr=>E.length-Bo wr tb)
 case atStart=>exact⟨N0,v0,v1,hNE,HT3.o,Ch.refl _ _⟩
 case round=>
  obtain⟨k,x0,x1,hk,tr,kr⟩:=hrel;have c3:=tr.JA;have hdn:Bo wr tb=k:=by unfold Bo;rw[c3];rfl
  by_cases hlt:k<E.length
  ·have ik:(k:Int)<(E.length:Int):=by omega
   have vk:IntKind.i64.wrap ((k:Int)+1)=(k:Int)+1:=bD _ (by omega);obtain⟨ev,hev⟩:∃ev,E[k]? =some ev:=⟨_,eG hlt⟩;obtain⟨g,rfl,hg,hgt,hrg⟩:=HRD.o k ev hev;have hin:=Dc.o ev (iH hev);have RG:wr.rangeAt g (k*21) (eF ev):=Fh (kr.block g hg (by omega)) hrg;have hst:d0.jw (E.take (k+1))=(d0.jw (E.take k)).does ev:=by rw[List.take_add_one,hev];exact DT.EK _ _ _
   have HST:Hid _:=hst;have uF:Hid _:=RG;have HGE:Hid _:=hin.1;have yZ:Hid _:=tr;have Cq:Hid _:=kr;have gq:(eF ev).length=21:=by rw[jk,hin.1.len]
   clear hst RG hin tr kr hrg;go_wp2_with (refine nN rfl 46 (.tmp 33) rfl g (k*21) rfl (eF ev) _ uF.o underlying46 rfl (by rw[gq];exact gZ) ?_);refine(DOES tb x0 x1 T k _ ev _ yZ.o (iV.o k) HGE.o (adS.o k)).mono ?_;rintro e w5 ⟨rfl,y0,y1,t5,k5⟩;rw[←HST.o]at t5;have f3:=t5.JA;have ae8:=(iV.o (k+1)).tl;have Am:Hid _:=t5;have Jg:Hid (Ch (· =tb) w3 w5):=Cq.o.trans k5;clear t5 k5 c3;go_wp2_with (refine IW rfl 3 dL (.tmp 42) _ rfl rfl T (k+1) 3 (.int .i64 ((k+1:Nat):Int)) rfl (by go_num) rfl rfl Am.o ae8 (by decide) rfl ?_;intro u6 t6 k6;have g3:=t6.JA;have xR:Hid _:=t6;have TH:Hid (Ch (· =tb) w3 u6):=Jg.o.trans k6;clear t6 k6 f3);go_roundw
   case rel=>exact⟨k+1,y0,y1,by omega,xR.o,TH.o⟩
   case measure=>
    have e1:Bo u6 tb=k+1:=by unfold Bo;rw[g3];rfl
    omega
  ·have ik:decide ((k:Int)<(E.length:Int))=false:=by simp;omega
   obtain rfl:k=E.length:=by omega
   have yZ:Hid _:=tr;have Cq:Hid _:=kr;clear tr kr;go_wp2_with fail
   first|go_end0|((try simp only[Exit.inBlock,Exit.then]);refine bX (dz rfl _ _ _) rfl ?_)
   refine⟨rfl,⟨x0,x1,?_⟩,Ep.o.trans Cq.o⟩;have h9:=yZ.o;rw[List.take_length,WE.o,HD0.o]at h9;exact h9
theorem JI(tb:Nat)(v0 v1:Value)(fed:ByteArray)(done:Nat)(d:DT)(f n m:Int)(w:World)(ht:bR w tb v0 v1 fed done d)(hok:d.Ok)(hn:0≤n∧n≤70000)(hm:0≤m∧m≤70000):Calls prog 130 #[.pointer (some ⟨tb,0,none⟩),.int .i64 f,.int .i64 n,.int .i64 m] w fun e w'=>e= .returned (.bool (DT.qZ f))∧bR w' tb v0 v1 fed done (d.moves f n m)∧Ch (· =tb) w w':=by
 have htl:=hok.tl;have hc2:d.t.ah≤40:=hok.inv.c2;have hr2:d.t.rows≤12:=hok.inv.r2;have a3:0≤d.t.row:=hok.inv.row0;have a4:d.t.row<(d.t.rows:Int):=hok.inv.jK;have a5:0≤d.t.col:=hok.inv.jA;have a6:d.t.col<(d.t.ah:Int):=hok.inv.jD;have ht0:0≤d.t.top:=hok.inv.iO;have htb:d.t.top≤d.t.bottom:=hok.inv.tb;have hb2:d.t.bottom<(d.t.rows:Int):=hok.inv.bot;have c0:=ht.qH;have c1:=ht.gX;have c4:=ht.Dq;have c5:w.cell? ⟨tb,5,none⟩=some (.int .i64 d.t.col):=ht.oz;have c16:=ht.rY;have c17:=ht.qG;have va:IntKind.i64.wrap ((d.t.ah:Int)-1)=(d.t.ah:Int)-1:=bD _ (by omega);have vb:IntKind.i64.wrap ((d.t.rows:Int)-1)=(d.t.rows:Int)-1:=bD _ (by omega);have vc:IntKind.i64.wrap (d.t.row-n)=d.t.row-n:=bD _ (by omega);have vd:IntKind.i64.wrap (d.t.row+n)=d.t.row+n:=bD _ (by omega);have ve:IntKind.i64.wrap (d.t.col-n)=d.t.col-n:=bD _ (by omega);have vf:IntKind.i64.wrap (d.t.col+n)=d.t.col+n:=bD _ (by omega);have vg:IntKind.i64.wrap (n-1)=n-1:=bD _ (by omega);have vh:IntKind.i64.wrap (m-1)=m-1:=bD _ (by omega);have TO:∀(r c:Int),-100000≤r∧r≤100000→Calls prog 139 #[.pointer (some ⟨tb,0,none⟩),.int .i64 r,.int .i64 c] w fun e w'=>e= .returned (.tuple #[])∧bR w' tb v0 v1 fed done (d.to r c)∧Ch (· =tb) w w':=fun r c hr=>EM tb v0 v1 fed done d r c w ht htl hc2 hr2 ht0 htb hb2 hr;have HT:Hid _:=ht;have HTO:Hid _:=TO;have HA:Hid _:=And.intro a3 (And.intro a4 (And.intro a5 (And.intro a6 (And.intro ht0 (And.intro htb (And.intro hb2 (And.intro hn hm)))))));clear ht hok TO a3 a4 a5 a6 ht0 htb hb2 hn hm;by_cases h65:f=65
 ·subst h65;rw[show DT.qZ 65=true from rfl];by_cases q1:d.t.top≤d.t.row
  ·by_cases q2:d.t.row-n<d.t.top
   ·have hX:d.moves 65 n m=d.mv d.t.top d.t.col:=by unfold DT.moves;rw[ak rfl,ak ⟨q1,q2⟩]
    rw[hX];unfold DT.mv DT.sc;clear hX;go_enter func130,ntmps130;go_wp2_with fail;go_quiet (fail);go_wp2_with (first|(go_at_call 127;refine(dh _ _ _ _).mono ?_;rintro e w1 ⟨rfl,hw1⟩;have hw2:=hw1.symm;subst hw2)|(refine aS rfl 3 dL (.tmp 127) (.tmp 123) rfl rfl {d with t:={d.t with row:=DT.wi (d.t.top) 0 ((d.t.rows:Int)-1)}} 4 _ rfl rfl rfl rfl (HT.o.drewN _) htl (by decide) rfl rfl rfl ?_));intro u1 t1 k1;have c1':=t1.gX;have HT1:Hid _:=t1;have kR:Hid _:=k1;clear t1 k1;go_wp2_with (first|(go_at_call 127;refine(dh _ _ _ _).mono ?_;rintro e w1 ⟨rfl,hw1⟩;have hw2:=hw1.symm;subst hw2)|(refine aS rfl 3 dL (.tmp 139) (.tmp 135) rfl rfl {d with t:={d.t with row:=DT.wi (d.t.top) 0 ((d.t.rows:Int)-1),col:=DT.wi (d.t.col) 0 ((d.t.ah:Int)-1)}} 5 _ rfl rfl rfl rfl HT1.o htl (by decide) rfl rfl rfl ?_));intro u2 t2 k2;have HT2:Hid _:=t2;have mD:Hid _:=k2;clear t2 k2;go_wp2_with (refine aS rfl 4 dZ (.tmp 144) _ rfl rfl {d with t:={d.t with row:=DT.wi (d.t.top) 0 ((d.t.rows:Int)-1),col:=DT.wi (d.t.col) 0 ((d.t.ah:Int)-1),waits:=false}} 6 (.bool false) rfl rfl rfl rfl HT2.o htl (by decide) rfl rfl rfl ?_);intro u3 t3 k3;go_wp2_with fail;go_ret;exact⟨rfl,t3,((((Ch.refl _ _).drewN _).trans kR.o).trans mD.o).trans k3⟩
   ·have hX:d.moves 65 n m=d.mv (d.t.row-n) d.t.col:=by unfold DT.moves;rw[ak rfl,ai (fun x=>q2 x.2)]
    rw[hX];unfold DT.mv DT.sc;have q2':decide (d.t.row-n<d.t.top)=false:=by simp;omega
    clear hX;go_enter func130,ntmps130;go_wp2_with fail;go_quiet (fail);go_wp2_with (first|(go_at_call 127;refine(dh _ _ _ _).mono ?_;rintro e w1 ⟨rfl,hw1⟩;have hw2:=hw1.symm;subst hw2)|(refine aS rfl 3 dL (.tmp 127) (.tmp 123) rfl rfl {d with t:={d.t with row:=DT.wi (d.t.row-n) 0 ((d.t.rows:Int)-1)}} 4 _ rfl rfl rfl rfl (HT.o.drewN _) htl (by decide) rfl rfl rfl ?_));intro u1 t1 k1;have c1':=t1.gX;have HT1:Hid _:=t1;have kR:Hid _:=k1;clear t1 k1;go_wp2_with (first|(go_at_call 127;refine(dh _ _ _ _).mono ?_;rintro e w1 ⟨rfl,hw1⟩;have hw2:=hw1.symm;subst hw2)|(refine aS rfl 3 dL (.tmp 139) (.tmp 135) rfl rfl {d with t:={d.t with row:=DT.wi (d.t.row-n) 0 ((d.t.rows:Int)-1),col:=DT.wi (d.t.col) 0 ((d.t.ah:Int)-1)}} 5 _ rfl rfl rfl rfl HT1.o htl (by decide) rfl rfl rfl ?_));intro u2 t2 k2;have HT2:Hid _:=t2;have mD:Hid _:=k2;clear t2 k2;go_wp2_with (refine aS rfl 4 dZ (.tmp 144) _ rfl rfl {d with t:={d.t with row:=DT.wi (d.t.row-n) 0 ((d.t.rows:Int)-1),col:=DT.wi (d.t.col) 0 ((d.t.ah:Int)-1),waits:=false}} 6 (.bool false) rfl rfl rfl rfl HT2.o htl (by decide) rfl rfl rfl ?_);intro u3 t3 k3;go_wp2_with fail;go_ret;exact⟨rfl,t3,((((Ch.refl _ _).drewN _).trans kR.o).trans mD.o).trans k3⟩
  ·have hX:d.moves 65 n m=d.mv (d.t.row-n) d.t.col:=by unfold DT.moves;rw[ak rfl,ai (fun x=>q1 x.1)]
   rw[hX];unfold DT.mv DT.sc;have q1':decide (d.t.top≤d.t.row)=false:=by simp;omega
   clear hX;go_enter func130,ntmps130;go_wp2_with fail;go_quiet (fail);go_wp2_with (first|(go_at_call 127;refine(dh _ _ _ _).mono ?_;rintro e w1 ⟨rfl,hw1⟩;have hw2:=hw1.symm;subst hw2)|(refine aS rfl 3 dL (.tmp 127) (.tmp 123) rfl rfl {d with t:={d.t with row:=DT.wi (d.t.row-n) 0 ((d.t.rows:Int)-1)}} 4 _ rfl rfl rfl rfl (HT.o.drewN _) htl (by decide) rfl rfl rfl ?_));intro u1 t1 k1;have c1':=t1.gX;have HT1:Hid _:=t1;have kR:Hid _:=k1;clear t1 k1;go_wp2_with (first|(go_at_call 127;refine(dh _ _ _ _).mono ?_;rintro e w1 ⟨rfl,hw1⟩;have hw2:=hw1.symm;subst hw2)|(refine aS rfl 3 dL (.tmp 139) (.tmp 135) rfl rfl {d with t:={d.t with row:=DT.wi (d.t.row-n) 0 ((d.t.rows:Int)-1),col:=DT.wi (d.t.col) 0 ((d.t.ah:Int)-1)}} 5 _ rfl rfl rfl rfl HT1.o htl (by decide) rfl rfl rfl ?_));intro u2 t2 k2;have HT2:Hid _:=t2;have mD:Hid _:=k2;clear t2 k2;go_wp2_with (refine aS rfl 4 dZ (.tmp 144) _ rfl rfl {d with t:={d.t with row:=DT.wi (d.t.row-n) 0 ((d.t.rows:Int)-1),col:=DT.wi (d.t.col) 0 ((d.t.ah:Int)-1),waits:=false}} 6 (.bool false) rfl rfl rfl rfl HT2.o htl (by decide) rfl rfl rfl ?_);intro u3 t3 k3;go_wp2_with fail;go_ret;exact⟨rfl,t3,((((Ch.refl _ _).drewN _).trans kR.o).trans mD.o).trans k3⟩
 have b65:(f==65)=false:=by simp[h65]
 by_cases h66:f=66
 ·subst h66;rw[show DT.qZ 66=true from rfl];by_cases q1:d.t.row≤d.t.bottom
  ·by_cases q2:d.t.bottom<d.t.row+n
   ·have hX:d.moves 66 n m=d.mv d.t.bottom d.t.col:=by unfold DT.moves;rw[ai h65,ak rfl,ak ⟨q1,q2⟩]
    rw[hX];unfold DT.mv DT.sc;clear hX;go_enter func130,ntmps130;go_wp2_with fail;go_quiet (fail);go_wp2_with (first|(go_at_call 127;refine(dh _ _ _ _).mono ?_;rintro e w1 ⟨rfl,hw1⟩;have hw2:=hw1.symm;subst hw2)|(refine aS rfl 3 dL (.tmp 127) (.tmp 123) rfl rfl {d with t:={d.t with row:=DT.wi (d.t.bottom) 0 ((d.t.rows:Int)-1)}} 4 _ rfl rfl rfl rfl (HT.o.drewN _) htl (by decide) rfl rfl rfl ?_));intro u1 t1 k1;have c1':=t1.gX;have HT1:Hid _:=t1;have kR:Hid _:=k1;clear t1 k1;go_wp2_with (first|(go_at_call 127;refine(dh _ _ _ _).mono ?_;rintro e w1 ⟨rfl,hw1⟩;have hw2:=hw1.symm;subst hw2)|(refine aS rfl 3 dL (.tmp 139) (.tmp 135) rfl rfl {d with t:={d.t with row:=DT.wi (d.t.bottom) 0 ((d.t.rows:Int)-1),col:=DT.wi (d.t.col) 0 ((d.t.ah:Int)-1)}} 5 _ rfl rfl rfl rfl HT1.o htl (by decide) rfl rfl rfl ?_));intro u2 t2 k2;have HT2:Hid _:=t2;have mD:Hid _:=k2;clear t2 k2;go_wp2_with (refine aS rfl 4 dZ (.tmp 144) _ rfl rfl {d with t:={d.t with row:=DT.wi (d.t.bottom) 0 ((d.t.rows:Int)-1),col:=DT.wi (d.t.col) 0 ((d.t.ah:Int)-1),waits:=false}} 6 (.bool false) rfl rfl rfl rfl HT2.o htl (by decide) rfl rfl rfl ?_);intro u3 t3 k3;go_wp2_with fail;go_ret;exact⟨rfl,t3,((((Ch.refl _ _).drewN _).trans kR.o).trans mD.o).trans k3⟩
   ·have hX:d.moves 66 n m=d.mv (d.t.row+n) d.t.col:=by unfold DT.moves;rw[ai h65,ak rfl,ai (fun x=>q2 x.2)]
    rw[hX];unfold DT.mv DT.sc;have q2':decide (d.t.bottom<d.t.row+n)=false:=by simp;omega
    clear hX;go_enter func130,ntmps130;go_wp2_with fail;go_quiet (fail);go_wp2_with (first|(go_at_call 127;refine(dh _ _ _ _).mono ?_;rintro e w1 ⟨rfl,hw1⟩;have hw2:=hw1.symm;subst hw2)|(refine aS rfl 3 dL (.tmp 127) (.tmp 123) rfl rfl {d with t:={d.t with row:=DT.wi (d.t.row+n) 0 ((d.t.rows:Int)-1)}} 4 _ rfl rfl rfl rfl (HT.o.drewN _) htl (by decide) rfl rfl rfl ?_));intro u1 t1 k1;have c1':=t1.gX;have HT1:Hid _:=t1;have kR:Hid _:=k1;clear t1 k1;go_wp2_with (first|(go_at_call 127;refine(dh _ _ _ _).mono ?_;rintro e w1 ⟨rfl,hw1⟩;have hw2:=hw1.symm;subst hw2)|(refine aS rfl 3 dL (.tmp 139) (.tmp 135) rfl rfl {d with t:={d.t with row:=DT.wi (d.t.row+n) 0 ((d.t.rows:Int)-1),col:=DT.wi (d.t.col) 0 ((d.t.ah:Int)-1)}} 5 _ rfl rfl rfl rfl HT1.o htl (by decide) rfl rfl rfl ?_));intro u2 t2 k2;have HT2:Hid _:=t2;have mD:Hid _:=k2;clear t2 k2;go_wp2_with (refine aS rfl 4 dZ (.tmp 144) _ rfl rfl {d with t:={d.t with row:=DT.wi (d.t.row+n) 0 ((d.t.rows:Int)-1),col:=DT.wi (d.t.col) 0 ((d.t.ah:Int)-1),waits:=false}} 6 (.bool false) rfl rfl rfl rfl HT2.o htl (by decide) rfl rfl rfl ?_);intro u3 t3 k3;go_wp2_with fail;go_ret;exact⟨rfl,t3,((((Ch.refl _ _).drewN _).trans kR.o).trans mD.o).trans k3⟩
  ·have hX:d.moves 66 n m=d.mv (d.t.row+n) d.t.col:=by unfold DT.moves;rw[ai h65,ak rfl,ai (fun x=>q1 x.1)]
   rw[hX];unfold DT.mv DT.sc;have q1':decide (d.t.row≤d.t.bottom)=false:=by simp;omega
   clear hX;go_enter func130,ntmps130;go_wp2_with fail;go_quiet (fail);go_wp2_with (first|(go_at_call 127;refine(dh _ _ _ _).mono ?_;rintro e w1 ⟨rfl,hw1⟩;have hw2:=hw1.symm;subst hw2)|(refine aS rfl 3 dL (.tmp 127) (.tmp 123) rfl rfl {d with t:={d.t with row:=DT.wi (d.t.row+n) 0 ((d.t.rows:Int)-1)}} 4 _ rfl rfl rfl rfl (HT.o.drewN _) htl (by decide) rfl rfl rfl ?_));intro u1 t1 k1;have c1':=t1.gX;have HT1:Hid _:=t1;have kR:Hid _:=k1;clear t1 k1;go_wp2_with (first|(go_at_call 127;refine(dh _ _ _ _).mono ?_;rintro e w1 ⟨rfl,hw1⟩;have hw2:=hw1.symm;subst hw2)|(refine aS rfl 3 dL (.tmp 139) (.tmp 135) rfl rfl {d with t:={d.t with row:=DT.wi (d.t.row+n) 0 ((d.t.rows:Int)-1),col:=DT.wi (d.t.col) 0 ((d.t.ah:Int)-1)}} 5 _ rfl rfl rfl rfl HT1.o htl (by decide) rfl rfl rfl ?_));intro u2 t2 k2;have HT2:Hid _:=t2;have mD:Hid _:=k2;clear t2 k2;go_wp2_with (refine aS rfl 4 dZ (.tmp 144) _ rfl rfl {d with t:={d.t with row:=DT.wi (d.t.row+n) 0 ((d.t.rows:Int)-1),col:=DT.wi (d.t.col) 0 ((d.t.ah:Int)-1),waits:=false}} 6 (.bool false) rfl rfl rfl rfl HT2.o htl (by decide) rfl rfl rfl ?_);intro u3 t3 k3;go_wp2_with fail;go_ret;exact⟨rfl,t3,((((Ch.refl _ _).drewN _).trans kR.o).trans mD.o).trans k3⟩
 have b66:(f==66)=false:=by simp[h66]
 by_cases h67:f=67
 ·subst h67;rw[show DT.qZ 67=true from rfl];have hX:d.moves 67 n m=d.mv d.t.row (d.t.col+n):=by unfold DT.moves;rw[ai h65,ai h66,ak rfl]
  rw[hX];unfold DT.mv DT.sc;clear hX;go_enter func130,ntmps130;go_wp2_with (first|(go_at_call 127;refine(dh _ _ _ _).mono ?_;rintro e w1 ⟨rfl,hw1⟩;have hw2:=hw1.symm;subst hw2)|(refine aS rfl 3 dL (.tmp 127) (.tmp 123) rfl rfl {d with t:={d.t with row:=DT.wi (d.t.row) 0 ((d.t.rows:Int)-1)}} 4 _ rfl rfl rfl rfl HT.o htl (by decide) rfl rfl rfl ?_));intro u1 t1 k1;have c1':=t1.gX;have HT1:Hid _:=t1;have kR:Hid _:=k1;clear t1 k1;go_wp2_with (first|(go_at_call 127;refine(dh _ _ _ _).mono ?_;rintro e w1 ⟨rfl,hw1⟩;have hw2:=hw1.symm;subst hw2)|(refine aS rfl 3 dL (.tmp 139) (.tmp 135) rfl rfl {d with t:={d.t with row:=DT.wi (d.t.row) 0 ((d.t.rows:Int)-1),col:=DT.wi (d.t.col+n) 0 ((d.t.ah:Int)-1)}} 5 _ rfl rfl rfl rfl HT1.o htl (by decide) rfl rfl rfl ?_));intro u2 t2 k2;have HT2:Hid _:=t2;have mD:Hid _:=k2;clear t2 k2;go_wp2_with (refine aS rfl 4 dZ (.tmp 144) _ rfl rfl {d with t:={d.t with row:=DT.wi (d.t.row) 0 ((d.t.rows:Int)-1),col:=DT.wi (d.t.col+n) 0 ((d.t.ah:Int)-1),waits:=false}} 6 (.bool false) rfl rfl rfl rfl HT2.o htl (by decide) rfl rfl rfl ?_);intro u3 t3 k3;go_wp2_with fail;go_ret;exact⟨rfl,t3,(((Ch.refl _ _).trans kR.o).trans mD.o).trans k3⟩
 have b67:(f==67)=false:=by simp[h67]
 by_cases h68:f=68
 ·subst h68;rw[show DT.qZ 68=true from rfl];have hX:d.moves 68 n m=d.mv d.t.row (d.t.col-n):=by unfold DT.moves;rw[ai h65,ai h66,ai h67,ak rfl]
  rw[hX];unfold DT.mv DT.sc;clear hX;go_enter func130,ntmps130;go_wp2_with (first|(go_at_call 127;refine(dh _ _ _ _).mono ?_;rintro e w1 ⟨rfl,hw1⟩;have hw2:=hw1.symm;subst hw2)|(refine aS rfl 3 dL (.tmp 127) (.tmp 123) rfl rfl {d with t:={d.t with row:=DT.wi (d.t.row) 0 ((d.t.rows:Int)-1)}} 4 _ rfl rfl rfl rfl HT.o htl (by decide) rfl rfl rfl ?_));intro u1 t1 k1;have c1':=t1.gX;have HT1:Hid _:=t1;have kR:Hid _:=k1;clear t1 k1;go_wp2_with (first|(go_at_call 127;refine(dh _ _ _ _).mono ?_;rintro e w1 ⟨rfl,hw1⟩;have hw2:=hw1.symm;subst hw2)|(refine aS rfl 3 dL (.tmp 139) (.tmp 135) rfl rfl {d with t:={d.t with row:=DT.wi (d.t.row) 0 ((d.t.rows:Int)-1),col:=DT.wi (d.t.col-n) 0 ((d.t.ah:Int)-1)}} 5 _ rfl rfl rfl rfl HT1.o htl (by decide) rfl rfl rfl ?_));intro u2 t2 k2;have HT2:Hid _:=t2;have mD:Hid _:=k2;clear t2 k2;go_wp2_with (refine aS rfl 4 dZ (.tmp 144) _ rfl rfl {d with t:={d.t with row:=DT.wi (d.t.row) 0 ((d.t.rows:Int)-1),col:=DT.wi (d.t.col-n) 0 ((d.t.ah:Int)-1),waits:=false}} 6 (.bool false) rfl rfl rfl rfl HT2.o htl (by decide) rfl rfl rfl ?_);intro u3 t3 k3;go_wp2_with fail;go_ret;exact⟨rfl,t3,(((Ch.refl _ _).trans kR.o).trans mD.o).trans k3⟩
 have b68:(f==68)=false:=by simp[h68]
 by_cases h71:f=71
 ·subst h71;rw[show DT.qZ 71=true from rfl];have hX:d.moves 71 n m=d.mv d.t.row (n-1):=by unfold DT.moves;rw[ai h65,ai h66,ai h67,ai h68,ak rfl]
  rw[hX];unfold DT.mv DT.sc;clear hX;go_enter func130,ntmps130;go_wp2_with (first|(go_at_call 127;refine(dh _ _ _ _).mono ?_;rintro e w1 ⟨rfl,hw1⟩;have hw2:=hw1.symm;subst hw2)|(refine aS rfl 3 dL (.tmp 127) (.tmp 123) rfl rfl {d with t:={d.t with row:=DT.wi (d.t.row) 0 ((d.t.rows:Int)-1)}} 4 _ rfl rfl rfl rfl HT.o htl (by decide) rfl rfl rfl ?_));intro u1 t1 k1;have c1':=t1.gX;have HT1:Hid _:=t1;have kR:Hid _:=k1;clear t1 k1;go_wp2_with (first|(go_at_call 127;refine(dh _ _ _ _).mono ?_;rintro e w1 ⟨rfl,hw1⟩;have hw2:=hw1.symm;subst hw2)|(refine aS rfl 3 dL (.tmp 139) (.tmp 135) rfl rfl {d with t:={d.t with row:=DT.wi (d.t.row) 0 ((d.t.rows:Int)-1),col:=DT.wi (n-1) 0 ((d.t.ah:Int)-1)}} 5 _ rfl rfl rfl rfl HT1.o htl (by decide) rfl rfl rfl ?_));intro u2 t2 k2;have HT2:Hid _:=t2;have mD:Hid _:=k2;clear t2 k2;go_wp2_with (refine aS rfl 4 dZ (.tmp 144) _ rfl rfl {d with t:={d.t with row:=DT.wi (d.t.row) 0 ((d.t.rows:Int)-1),col:=DT.wi (n-1) 0 ((d.t.ah:Int)-1),waits:=false}} 6 (.bool false) rfl rfl rfl rfl HT2.o htl (by decide) rfl rfl rfl ?_);intro u3 t3 k3;go_wp2_with fail;go_ret;exact⟨rfl,t3,(((Ch.refl _ _).trans kR.o).trans mD.o).trans k3⟩
 have b71:(f==71)=false:=by simp[h71]
 by_cases h100:f=100
 ·subst h100;rw[show DT.qZ 100=true from rfl];have hX:d.moves 100 n m=d.to (n-1) (d.t.col):=by unfold DT.moves;rw[ai h65,ai h66,ai h67,ai h68,ai h71,ak rfl]
  rw[hX];clear hX;go_enter func130,ntmps130;go_wp2_with fail;refine(HTO.o (n-1) (d.t.col) (by have:=HA.o;omega)).mono ?_;rintro e w1 ⟨rfl,t1,k1⟩;go_wp2_with fail;go_ret;exact⟨rfl,t1,k1⟩
 have b100:(f==100)=false:=by simp[h100]
 by_cases h72:f=72
 ·subst h72;rw[show DT.qZ 72=true from rfl];have hX:d.moves 72 n m=d.to (n-1) (m-1):=by unfold DT.moves;rw[ai h65,ai h66,ai h67,ai h68,ai h71,ai h100,ak (.inl rfl)]
  rw[hX];clear hX;go_enter func130,ntmps130;go_wp2_with fail;refine(HTO.o (n-1) (m-1) (by have:=HA.o;omega)).mono ?_;rintro e w1 ⟨rfl,t1,k1⟩;go_wp2_with fail;go_ret;exact⟨rfl,t1,k1⟩
 have b72:(f==72)=false:=by simp[h72]
 by_cases h102:f=102
 ·subst h102;rw[show DT.qZ 102=true from rfl];have hX:d.moves 102 n m=d.to (n-1) (m-1):=by unfold DT.moves;rw[ai h65,ai h66,ai h67,ai h68,ai h71,ai h100,ak (.inr rfl)]
  rw[hX];clear hX;go_enter func130,ntmps130;go_wp2_with fail;refine(HTO.o (n-1) (m-1) (by have:=HA.o;omega)).mono ?_;rintro e w1 ⟨rfl,t1,k1⟩;go_wp2_with fail;go_ret;exact⟨rfl,t1,k1⟩
 have b102:(f==102)=false:=by simp[h102]
 have hX:d.moves f n m=d:=by unfold DT.moves;rw[ai h65,ai h66,ai h67,ai h68,ai h71,ai h100,ai (by omega)]
 have hY:DT.qZ f=false:=by simp only[DT.qZ,decide_eq_false_iff_not];omega
 rw[hX,hY];clear hX hY;go_enter func130,ntmps130;go_wp2_with fail;go_ret;exact⟨rfl,HT.o,Ch.refl _ _⟩
end Go.Proofs.YtheibfffilomcaaGreatDoor
