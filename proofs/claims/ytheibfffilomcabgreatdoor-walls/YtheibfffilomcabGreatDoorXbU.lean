import Derived.Test.YtheibfffilomcabGreatDoorEvnU
import Derived.Test.YtheibfffilomcabGreatDoorTwU
import Derived.Test.YtheibfffilomcabGreatDoorMwaU
import Derived.Test.YtheibfffilomcabGreatDoorCcU
set_option linter.all false
set_option maxRecDepth 100000
set_option maxHeartbeats 2000000
namespace Go.Proofs.YtheibfffilomcabGreatDoor
open Go.RowKit Go.Proofs.Tryz
variable {s:MS} {w w':World} {b:Int} {fb:Nat} {L:Lay}
theorem TS.Inv.move{s:TS}(h:s.Inv)(f p0 p1:Int):(s.move f p0 p1).Inv:=by
 have ht:0≤TS.times p0:=by unfold TS.times;omega
 unfold TS.move
 repeat' split
 ·exact h.rise _ ht
 ·exact h.sink _ ht
 ·exact h.bD _
 ·exact h.bD _
 ·exact h.bD _
 ·exact h.aW _
 ·exact(h.aW _).bD _
 ·exact h
theorem TS.Inv.dD{s:TS}(h:s.Inv)(what:Int):(s.dD what).Inv:=by
 unfold TS.dD
 repeat' split
 ·exact h.setCur (by rw[fG];exact h.nW)
 ·exact h.setCur (by rw[fG];exact h.nW)
 ·exact h.setCur (by rw[fG];exact h.nW)
 ·exact h
theorem TS.Inv.edit{s:TS}(h:s.Inv)(f p0:Int):(s.edit f p0).Inv:=by
 unfold TS.edit;dsimp only
 repeat' split
 ·exact(h.dA _).dD _
 ·exact h.dA _
 ·exact h.aI _
 ·exact h.aI _
 ·exact h.aI _
 ·exact(h.setCur (by rw[pK];exact h.nW)).bD 0
 ·exact h
 ·exact(h.setCur (by rw[t_];exact h.nW)).bD 0
 ·exact h
 ·exact h.fe _
 ·exact h.eG _
 ·exact h
theorem TS.Inv.jo{s:TS}(h:s.Inv)(f:Int)(ps:List Int)(ct:Nat):(s.jo f ps ct).Inv:=by
 unfold TS.jo
 repeat' split
 ·exact h.fH _ _ (by unfold TS.times;omega)
 ·exact h.eD _
 ·exact TS.Inv.turns _ h
 ·exact h.upd rfl rfl rfl rfl rfl rfl rfl h.row0 h.iT h.fU h.gz h.gN h.tb h.bot h.sh
 ·exact h
 ·exact h
theorem TS.Inv.sequence{s:TS}(h:s.Inv)(mk f:Int)(ps:List Int)(ct:Nat):(s.sequence mk f ps ct).Inv:=by
 unfold TS.sequence;dsimp only
 repeat' split
 ·exact((h.aJ.move _ _ _).edit _ _).jo _ _ _
 ·exact((h.move _ _ _).edit _ _).jo _ _ _
 ·exact TS.Inv.sets _ _ h
 ·exact h
 ·exact h
theorem C8(L:Lay)(s:TS)(w:World)(ht:a_ w L s)(hi:s.Inv)(ev:List Int)(hev:ev.length=21)(ct:Nat)(hct:ev.getD 4 0=(ct:Int))(Y1:ct≤16)(hps:∀x∈ev.drop 5,-1≤x∧x≤65535)(hf:64≤ev.getD 3 0∧ev.getD 3 0≤126):
 Calls prog 80 #[.pointer (some ⟨L.tb,0,none⟩),.agg (aO ev)] w fun e w'=>e= .returned (.tuple #[])∧a_ w' L (s.sequence (ev.getD 2 0) (ev.getD 3 0) (ev.drop 5) ct)∧Ch L.own w w':=by
 have HTW:Hid _:=ht;have HT0:=ht.sm ((Ch.refl (fun _=>False) w).alloc (.cells (aO ev) 92));have BZ:Hid ((w.alloc (.cells (aO ev) 92)).heap[w.heap.size]? =some (.cells (aO ev) 92 (0,0))):=bJ _ _;have e2:=gT (j:=2) BZ.o (by omega);have e3:=gT (j:=3) BZ.o (by omega);have e4:=gT (j:=4) BZ.o (by omega);have g0:(ev.drop 5).getD 0 0=ev.getD 5 0:=by simp[List.getD]
 have g1:(ev.drop 5).getD 1 0=ev.getD 6 0:=by simp[List.getD]
 have hb5: -1≤ev.getD 5 0∧ev.getD 5 0≤65535:=by rw[←g0];refine hps _ ?_;simp[List.getD,gK (show 5<ev.length by omega)];exact List.mem_iff_getElem.2 ⟨0,by simp;omega,by simp⟩
 have hb6: -1≤ev.getD 6 0∧ev.getD 6 0≤65535:=by rw[←g1];refine hps _ ?_;simp[List.getD,gK (show 6<ev.length by omega)];exact List.mem_iff_getElem.2 ⟨1,by simp;omega,by simp⟩
 rw[hct]at e4;have jA:Hid (Ch L.own w (w.alloc (.cells (aO ev) 92))):=(Ch.refl _ _).alloc _;have AQ:Hid (¬L.own w.heap.size):=fun h=>by have:=ht.jv h;omega
 have DC:Hid (w.heap.size<(w.alloc (.cells (aO ev) 92)).heap.size):=by show _<_;simp
 have hlt:=ht.lt;have lm:∀t u,a_ u L t→t.Inv→_:=fun t u h1 h2=>O0 L t u h1 h2 ev hev hb5 hb6;have le:∀t u,a_ u L t→t.Inv→_:=fun t u h1 h2=>Og L t u h1 h2 ev hev hb5;have la:∀t u,a_ u L t→t.Inv→_:=fun t u h1 h2=>GK L t u h1 h2 ev hev ct hct Y1 hps;have hX:s.sequence (ev.getD 2 0) (ev.getD 3 0) (ev.drop 5) ct=if ev.getD 2 0=0 then(((if TS.mW (ev.getD 3 0)then s.aJ else s).move (ev.getD 3 0) (ev.getD 5 0) (ev.getD 6 0)).edit (ev.getD 3 0) (ev.getD 5 0)).jo (ev.getD 3 0) (ev.drop 5) ct
  else if ev.getD 2 0=63 then(if ev.getD 3 0=104∨ev.getD 3 0=108 then s.sets (decide (ev.getD 3 0=104)) ((ev.drop 5).take ct)else s)else s:=by unfold TS.sequence;rw[g0,g1]
 have hns:((ev.drop 5).take ct).length=ct:=by rw[jJ,wR];omega
 have hcs:∀u:World,u.heap[w.heap.size]? =some (.cells (aO ev) 92 (0,0))→∀j x,((ev.drop 5).take ct)[j]? =some x→u.cell? ⟨w.heap.size,5+j,none⟩=some (.int .i64 x):=fun u hu j x hx=>by
  rw[qA]at hx;split at hx
  ·rw[qC]at hx;have:=gT (j:=5+j) hu (ja.1 hx).1;rw[this];simp[List.getD,hx]
  ·cases hx
 have HCS:Hid _:=hcs;generalize s.sequence (ev.getD 2 0) (ev.getD 3 0) (ev.drop 5) ct=X at*;have HI:Hid s.Inv:=hi;have HT:Hid _:=HT0;have hst:=OH (ev.getD 3 0) hf;have lx:∀u,_:=fun u=>Ld (ev.getD 3 0) hf u;have c28:=ht.c 28 _ rfl;have f28:=ht.f 28;have vu:IntKind.u8.wrap (ev.getD 3 0)=ev.getD 3 0:=by rw[IntKind.wrap_u8];omega
 clear ht hi HT0 g0 g1 hcs hct hb5 hb6 hps;generalize ev.getD 2 0=mk at*;generalize ev.getD 3 0=f at*;generalize ev.getD 5 0=p0 at*;generalize ev.getD 6 0=p1 at*;generalize ev.drop 5=ps at*;by_cases hm:mk=0
 ·subst hm;rw[aS rfl]at hX;cases hs:TS.mW f with
  |true=>
   rw[hs]at hX hst;rw[aS rfl]at hX;have hq:0≤dh f:=nG hst;generalize dh f=r at*;have HX:Hid _:=hX;have WW:Hid (a_ ((w.setCell ⟨L.tb,28,none⟩ (.bool false)).alloc (.cells (aO ev) 92)) L s.aJ):=(HTW.o.set (s':=s.aJ) 28 (.bool false) rfl rfl rfl rfl rfl).sm ((Ch.refl _ _).alloc _);have Wn:Hid (Ch L.own w ((w.setCell ⟨L.tb,28,none⟩ (.bool false)).alloc (.cells (aO ev) 92))):=((Ch.refl _ _).jI _ _).alloc _;have Tf:Hid s.aJ.Inv:=HI.o.aJ;have Qs:Hid (((w.setCell ⟨L.tb,28,none⟩ (.bool false)).alloc (.cells (aO ev) 92)).heap[w.heap.size]? =some (.cells (aO ev) 92 (0,0))):=by have:=bJ (w.setCell ⟨L.tb,28,none⟩ (.bool false)) (.cells (aO ev) 92);rwa[show(w.setCell ⟨L.tb,28,none⟩ (.bool false)).heap.size=w.heap.size by simp[World.setCell]]at this
   have WU:Hid (w.heap.size<((w.setCell ⟨L.tb,28,none⟩ (.bool false)).alloc (.cells (aO ev) 92)).heap.size):=bM Qs.o;clear hX hst hs HT jA BZ;go_enter func80,ntmps80;go_wp2_with (first|(go_at_call 133;refine(lx _).mono ?_;rintro e w0 ⟨rfl,hw1⟩;have hw2:=hw1.symm;subst hw2)|(go_at_call 134;refine(lm s.aJ _ WW.o Tf.o).mono ?_;rintro e w1 ⟨rfl,h1,c1⟩;have he1:=(c1.block w.heap.size WU.o AQ.o).trans Qs.o)|(go_at_call 135;refine(le _ _ h1 (Tf.o.move _ _ _)).mono ?_;rintro e w2 ⟨rfl,h2,c2⟩;have he2:=(c2.block w.heap.size (aH WU.o c1.size) AQ.o).trans he1)|(go_at_call 136;refine(la _ _ h2 ((Tf.o.move _ _ _).edit _ _)).mono ?_;rintro e w3 ⟨rfl,h3,c3⟩)|(refine jh _ rfl (.tmp 3) rfl w.heap.size ev rfl hev 92 (0,0) he2 ?_)|(refine jh _ rfl (.tmp 3) rfl w.heap.size ev rfl hev 92 (0,0) he1 ?_)|(refine jh _ rfl (.tmp 3) rfl w.heap.size ev rfl hev 92 (0,0) Qs.o ?_));go_end0;exact⟨rfl,by rw[HX.o];exact h3,Wn.o.trans (c1.trans (c2.trans c3))⟩
  |false=>rw[hs]at hX hst;rw[aG (by simp)]at hX;have hq:¬0≤dh f:=of_decide_eq_false hst;have dq:decide (0≤dh f)=false:=hst;generalize dh f=r at*;have HX:Hid _:=hX;have WW:Hid (a_ (w.alloc (.cells (aO ev) 92)) L s):=HT.o;have Wn:Hid (Ch L.own w (w.alloc (.cells (aO ev) 92))):=jA.o;have Tf:Hid s.Inv:=HI.o;have Qs:Hid ((w.alloc (.cells (aO ev) 92)).heap[w.heap.size]? =some (.cells (aO ev) 92 (0,0))):=BZ.o;have WU:Hid (w.heap.size<(w.alloc (.cells (aO ev) 92)).heap.size):=DC.o;clear hX hst hs HT jA BZ;go_enter func80,ntmps80;go_wp2_with (first|(go_at_call 133;refine(lx _).mono ?_;rintro e w0 ⟨rfl,hw1⟩;have hw2:=hw1.symm;subst hw2)|(go_at_call 134;refine(lm s _ WW.o Tf.o).mono ?_;rintro e w1 ⟨rfl,h1,c1⟩;have he1:=(c1.block w.heap.size WU.o AQ.o).trans Qs.o)|(go_at_call 135;refine(le _ _ h1 (Tf.o.move _ _ _)).mono ?_;rintro e w2 ⟨rfl,h2,c2⟩;have he2:=(c2.block w.heap.size (aH WU.o c1.size) AQ.o).trans he1)|(go_at_call 136;refine(la _ _ h2 ((Tf.o.move _ _ _).edit _ _)).mono ?_;rintro e w3 ⟨rfl,h3,c3⟩)|(refine jh _ rfl (.tmp 3) rfl w.heap.size ev rfl hev 92 (0,0) he2 ?_)|(refine jh _ rfl (.tmp 3) rfl w.heap.size ev rfl hev 92 (0,0) he1 ?_)|(refine jh _ rfl (.tmp 3) rfl w.heap.size ev rfl hev 92 (0,0) Qs.o ?_));go_end0;exact⟨rfl,by rw[HX.o];exact h3,Wn.o.trans (c1.trans (c2.trans c3))⟩
 ·rw[aG hm]at hX;have b0:(mk==0)=false:=by simp[hm]
  by_cases hm2:mk=63
  ·rw[aS hm2]at hX;have b1:(mk==63)=true:=by simp[hm2]
   rcases(show f=104∨f=108∨¬(f=104∨f=108) by omega)with rfl|rfl|hq
   ·rw[aS (by omega)]at hX;have HX:Hid _:=hX;have Ta:=HCS.o _ BZ.o;have i1:(ct:Int)≤16:=by omega
    clear hX hm hm2;go_enter func80,ntmps80;go_wp2_with fail;generalize hW:w.alloc (Obj.cells (aO ev) 92)=W at*;generalize hlb:w.heap.size=lb at*;have HT1:a_ ({W with drawn:=W.drawn+1}:World) L s:=HT.o.sm ((Ch.refl _ _).drewN 1);have l1:=Kj L s ({W with drawn:=W.drawn+1}:World) HT1 HI.o true lb 5 16 (ps.take ct) (by omega) Ta AQ.o DC.o;rw[hns]at l1;have HH:World.cell? ({W with drawn:=W.drawn+1}:World) ⟨lb,4,none⟩=some (.int .i64 (ct:Int))∧World.cell? ({W with drawn:=W.drawn+1}:World) ⟨lb,3,none⟩=some (.int .i64 104):=⟨e4,e3⟩;refine fJ (S:=fun x=>x.cell? ⟨lb,4,none⟩=some (.int .i64 (ct:Int))∧x.cell? ⟨lb,3,none⟩=some (.int .i64 104)) bI ?_;refine aL 0 1 2 3 HH ?_;simp only[ah,ag];refine ak 4 HH ?_ (v:=.slice (some ⟨lb,5,none⟩) ct 16);refine g_ 5 6 HH ?_;refine ak 7 HH ?_ (v:=.bool true);simp only[ah,ag];refine aD 8 ?_;refine bR (vs:=[.pointer (some ⟨L.tb,0,none⟩),.slice (some ⟨lb,5,none⟩) ct 16,.bool true]) (R:=fun v w'=>v= .tuple #[]∧a_ w' L X∧Ch L.own W w') (l1.mono fun e w' h=>⟨_,h.1,rfl,by rw[HX.o];exact h.2.1,⟨h.2.2.os,h.2.2.tape,h.2.2.output,h.2.2.size,h.2.2.block⟩⟩) ?_;rintro v2 w9 ⟨rfl,t9,c9⟩;refine⟨⟨(eT (c9.block lb DC.o AQ.o)).trans e4,(eT (c9.block lb DC.o AQ.o)).trans e3⟩,?_⟩;simp only[ah,ag];refine aM ?_;have HF:Hid (a_ w9 L X∧Ch L.own w w9):=⟨t9,jA.o.trans c9⟩;clear t9 c9 HT1 HH l1;go_wp2_with fail;go_end0;exact⟨rfl,HF.o.1,HF.o.2⟩
   ·rw[aS (by omega)]at hX;have HX:Hid _:=hX;have Ta:=HCS.o _ BZ.o;have i1:(ct:Int)≤16:=by omega
    clear hX hm hm2;go_enter func80,ntmps80;go_wp2_with fail;generalize hW:w.alloc (Obj.cells (aO ev) 92)=W at*;generalize hlb:w.heap.size=lb at*;have HT1:a_ ({W with drawn:=W.drawn+1}:World) L s:=HT.o.sm ((Ch.refl _ _).drewN 1);have l1:=Kj L s ({W with drawn:=W.drawn+1}:World) HT1 HI.o false lb 5 16 (ps.take ct) (by omega) Ta AQ.o DC.o;rw[hns]at l1;have HH:World.cell? ({W with drawn:=W.drawn+1}:World) ⟨lb,4,none⟩=some (.int .i64 (ct:Int))∧World.cell? ({W with drawn:=W.drawn+1}:World) ⟨lb,3,none⟩=some (.int .i64 108):=⟨e4,e3⟩;refine fJ (S:=fun x=>x.cell? ⟨lb,4,none⟩=some (.int .i64 (ct:Int))∧x.cell? ⟨lb,3,none⟩=some (.int .i64 108)) bI ?_;refine aL 0 1 2 3 HH ?_;simp only[ah,ag];refine ak 4 HH ?_ (v:=.slice (some ⟨lb,5,none⟩) ct 16);refine g_ 5 6 HH ?_;refine ak 7 HH ?_ (v:=.bool false);simp only[ah,ag];refine aD 8 ?_;refine bR (vs:=[.pointer (some ⟨L.tb,0,none⟩),.slice (some ⟨lb,5,none⟩) ct 16,.bool false]) (R:=fun v w'=>v= .tuple #[]∧a_ w' L X∧Ch L.own W w') (l1.mono fun e w' h=>⟨_,h.1,rfl,by rw[HX.o];exact h.2.1,⟨h.2.2.os,h.2.2.tape,h.2.2.output,h.2.2.size,h.2.2.block⟩⟩) ?_;rintro v2 w9 ⟨rfl,t9,c9⟩;refine⟨⟨(eT (c9.block lb DC.o AQ.o)).trans e4,(eT (c9.block lb DC.o AQ.o)).trans e3⟩,?_⟩;simp only[ah,ag];refine aM ?_;have HF:Hid (a_ w9 L X∧Ch L.own w w9):=⟨t9,jA.o.trans c9⟩;clear t9 c9 HT1 HH l1;go_wp2_with fail;go_end0;exact⟨rfl,HF.o.1,HF.o.2⟩
   ·rw[aG hq]at hX;have HX:Hid _:=hX;have b2:(f==104)=false:=by simp;omega
    have b3:(f==108)=false:=by simp;omega
    clear hX hq hm hm2;go_enter func80,ntmps80;go_wp2_with fail;go_end0;exact⟨rfl,by rw[HX.o];exact HT.o,jA.o⟩
  ·rw[aG hm2]at hX;have b1:(mk==63)=false:=by simp[hm2]
   have HX:Hid _:=hX;clear hX hm hm2;go_enter func80,ntmps80;go_wp2_with fail;go_end0;exact⟨rfl,by rw[HX.o];exact HT.o,jA.o⟩
def TS.take (s:TS) (ev:List Int):TS:=
 if ev.getD 0 0=1 then s.print (ev.getD 1 0) (nD (ev.getD 1 0)).toNat else if ev.getD 0 0=2 then s.control (ev.getD 1 0)
 else if ev.getD 0 0=3 then s.escape (ev.getD 2 0) (ev.getD 3 0)else if ev.getD 0 0=4 then s.sequence (ev.getD 2 0) (ev.getD 3 0) (ev.drop 5) (ev.getD 4 0).toNat else s
structure Gx (ev:List Int):Prop where
 len:ev.length=21
 ct:0≤ev.getD 4 0∧ev.getD 4 0≤16
 ps:∀x∈ev.drop 5,-1≤x∧x≤65535
 fin:ev.getD 0 0=4→64≤ev.getD 3 0∧ev.getD 3 0≤126
theorem zP(c:Int):0≤nD c∧nD c≤2:=by
 unfold nD;have h:∀l:List (Int × Int × Int),(∀x∈l,0≤x.2.2∧x.2.2≤2)→0≤lq c l∧lq c l≤2:=by
  intro l;induction l with
  |nil=>intro _;simp[lq]
  |cons x l ih=>
   intro hx;obtain⟨a,b,y⟩:=x;simp only[lq];split
   ·exact hx (a,b,y) (by simp)
   ·exact ih fun z hz=>hx z (by simp[hz])
 refine h v_ ?_;intro x hx;simp only[v_,di,eU,eX]at hx;rcases hx with rfl|rfl|rfl|rfl|rfl|rfl|rfl|rfl|rfl|rfl|rfl|rfl|rfl|rfl<;>exact⟨by decide,by decide⟩
theorem TS.Inv.lW{s:TS}(h:s.Inv):s.lW.Inv:=h.bD _
theorem TS.Inv.step{s:TS}(h:s.Inv)(wd:Nat):(s.step wd).Inv:=by have:=h.bD (s.col+(wd:Int));exact this.upd rfl rfl rfl rfl rfl rfl rfl this.row0 this.iT this.fU this.gz this.gN this.tb this.bot this.sh
theorem TS.Inv.iG{s:TS}(h:s.Inv)(c:Int)(wd:Nat):(s.iG c wd).Inv:=by
 unfold TS.iG;split
 ·exact TS.Inv.step (TS.Inv.aI (h.aI _) _) _
 ·exact TS.Inv.step (h.aI _) _
theorem TS.Inv.dS{s:TS}(h:s.Inv):s.dS.Inv:=by
 unfold TS.dS;split
 ·exact h.aJ.aT
 ·exact h
theorem TS.Inv.print{s:TS}(h:s.Inv)(c:Int)(wd:Nat):(s.print c wd).Inv:=by
 unfold TS.print
 repeat' split
 ·exact h
 ·exact h.dS.aT.iG _ _
 ·exact h.dS
 ·exact h.dS.iG _ _
theorem TS.Inv.use{s:TS}(h:s.Inv)(u:Int):({s with use:=u}:TS).Inv:=h.upd rfl rfl rfl rfl rfl rfl rfl h.row0 h.iT h.fU h.gz h.gN h.tb h.bot h.sh
theorem TS.Inv.control{s:TS}(h:s.Inv)(c:Int):(s.control c).Inv:=by
 have h1:(if 8≤c∧c≤13 then s.aJ else s).Inv:=by
  split
  ·exact h.aJ
  ·exact h
 unfold TS.control;dsimp only;generalize (if 8≤c∧c≤13 then s.aJ else s)=t at*
 repeat' split
 ·exact h1.bD _
 ·exact h1.lW
 ·exact h1.down
 ·exact h1.bD _
 ·exact h1.use 1
 ·exact h1.use 0
 ·exact h1
theorem TS.Inv.save{s:TS}(h:s.Inv):s.save.Inv:=by
 unfold TS.save;split
 ·exact⟨h.r1,h.r2,h.c1,h.c2,h.row0,h.iT,h.fU,h.gz,h.gN,h.tb,h.bot,h.sh,h.l0,h.l1,h.lt,⟨h.row0,h.iT⟩,⟨h.fU,h.gz⟩,h.VT,h.VS⟩
 ·exact⟨h.r1,h.r2,h.c1,h.c2,h.row0,h.iT,h.fU,h.gz,h.gN,h.tb,h.bot,h.sh,h.l0,h.l1,h.lt,h.VR,h.VQ,⟨h.row0,h.iT⟩,⟨h.fU,h.gz⟩⟩
theorem TS.Inv.restore{s:TS}(h:s.Inv):s.restore.Inv:=by
 have hv:(0≤s.saved.row∧s.saved.row<(s.rows:Int))∧(0≤s.saved.col∧s.saved.col<(s.aa:Int)):=by
  unfold TS.saved;split
  ·exact⟨h.VR,h.VQ⟩
  ·exact⟨h.VT,h.VS⟩
 have hr:0≤(if s.saved.origin then TS.bn s.saved.row s.top s.bottom else s.saved.row)∧(if s.saved.origin then TS.bn s.saved.row s.top s.bottom else s.saved.row)<(s.rows:Int):=by
  have:=h.gN;have:=h.tb;have:=h.bot;split
  ·unfold TS.bn;omega
  ·exact hv.1
 exact h.upd rfl rfl rfl rfl rfl rfl rfl hr.1 hr.2 hv.2.1 hv.2.2 h.gN h.tb h.bot h.sh
theorem TS.Inv.bare{s:TS}(h:s.Inv)(f:Int):(s.bare f).Inv:=by
 unfold TS.bare
 repeat' split
 ·exact h.save
 ·exact h.restore
 ·exact h.aJ.down
 ·exact h.aJ.up
 ·exact h.aJ.aT
 ·exact h.C_ _ (by rw[qB];exact h.lt)
 ·exact TS.Inv.fresh ⟨h.r1,h.r2⟩ ⟨h.c1,h.c2⟩
 ·exact h
theorem TS.Inv.escape{s:TS}(h:s.Inv)(mk f:Int):(s.escape mk f).Inv:=by
 unfold TS.escape
 repeat' split
 ·exact h.bare f
 ·exact h.upd rfl rfl rfl rfl rfl rfl rfl h.row0 h.iT h.fU h.gz h.gN h.tb h.bot h.sh
 ·exact h.upd rfl rfl rfl rfl rfl rfl rfl h.row0 h.iT h.fU h.gz h.gN h.tb h.bot h.sh
 ·exact h
theorem TS.Inv.take{s:TS}(h:s.Inv)(ev:List Int):(s.take ev).Inv:=by
 unfold TS.take
 repeat' split
 ·exact h.print _ _
 ·exact h.control _
 ·exact h.escape _ _
 ·exact h.sequence _ _ _ _
 ·exact h
structure iE (w:World):Prop where
 sp:yB w
 le:jK w
 st:iX w
theorem iE.kept{w w':World}(h:iE w)(hb:∀k,k≤2→w'.heap[k]? =w.heap[k]?):iE w':=⟨h.sp.kept (hb 1 (by omega)),h.le.kept (hb 0 (by omega)),h.st.kept (hb 2 (by omega))⟩
theorem iE.ch(h:iE w){P:Nat→Prop}(c:Ch P w w')(hp:∀k,k≤2→¬P k):iE w':=by obtain⟨t,fr,h2⟩:=h.st;have hs:2<w.heap.size:=bM h2;exact h.kept fun k hk=>c.block k (by omega) (hp k hk)
theorem BR(L:Lay)(s:TS)(w:World)(ht:a_ w L s)(hi:s.Inv)(hL:L.Hi)(htb:iE w)(ev:List Int)(hev:Gx ev):Calls prog 41 #[.pointer (some ⟨L.tb,0,none⟩),.agg (aO ev)] w fun e w'=>e= .returned (.tuple #[])∧Next L w w' (s.take ev):=by
 have HT:=ht.sm ((Ch.refl (fun _=>False) w).alloc (.cells (aO ev) 92));have BZ:Hid ((w.alloc (.cells (aO ev) 92)).heap[w.heap.size]? =some (.cells (aO ev) 92 (0,0))):=bJ _ _;have hl:=hev.len;have e0:=gT (j:=0) BZ.o (by omega);have e1:=gT (j:=1) BZ.o (by omega);have jA:Hid (Ch L.own w (w.alloc (.cells (aO ev) 92))):=(Ch.refl _ _).alloc _;have htw:=htb.ch ((Ch.refl (fun _=>False) w).alloc (.cells (aO ev) 92)) (fun _ _ h=>h);have hX:s.take ev=if ev.getD 0 0=1 then s.print (ev.getD 1 0) (nD (ev.getD 1 0)).toNat else if ev.getD 0 0=2 then s.control (ev.getD 1 0)
  else if ev.getD 0 0=3 then s.escape (ev.getD 2 0) (ev.getD 3 0)else if ev.getD 0 0=4 then s.sequence (ev.getD 2 0) (ev.getD 3 0) (ev.drop 5) (ev.getD 4 0).toNat else s:=rfl
 have hw:=zP (ev.getD 1 0);have l1:=LH L s _ HT hi hL htw.sp htw.st (ev.getD 1 0) (nD (ev.getD 1 0)).toNat (by omega) (by omega);have l2:=Em L s _ HT hi (ev.getD 1 0);have l3:=G5 L s _ HT hi ev hl;have l4:ev.getD 0 0=4→_:=fun h4=>C8 L s _ HT hi ev hl (ev.getD 4 0).toNat (by have:=hev.ct;omega) (by have:=hev.ct;omega) hev.ps (hev.fin h4);generalize s.take ev=X at*;have HHT:Hid _:=HT;clear ht hi hL htb htw hev HT;generalize ev.getD 0 0=kd at*;generalize ev.getD 1 0=ru at*;rcases(show kd=1∨kd=2∨kd=3∨kd=4∨¬(kd=1∨kd=2∨kd=3∨kd=4) by omega)with rfl|rfl|rfl|rfl|hk
 ·have HX:Hid _:=hX;clear hX l2 l3 l4;go_enter func41,ntmps41;go_wp2_with (go_at_call 77;refine l1.mono ?_;rintro e w1 ⟨rfl,h1,c1⟩);go_end0;exact⟨rfl,Next.ahead jA.o (Next.of (by rw[HX.o];exact h1) c1)⟩
 ·have HX:Hid _:=hX;clear hX l1 l3 l4;go_enter func41,ntmps41;go_wp2_with (go_at_call 78;refine l2.mono ?_;rintro e w1 ⟨rfl,h1,c1⟩);go_end0;exact⟨rfl,Next.ahead jA.o (Next.of (by rw[HX.o];exact h1) c1)⟩
 ·have HX:Hid _:=hX;clear hX l1 l2 l4;go_enter func41,ntmps41;go_wp2_with (first|(go_at_call 79;refine l3.mono ?_;rintro e w1 ⟨rfl,n1⟩)|(refine jh _ rfl (.tmp 3) rfl w.heap.size ev rfl hl 92 (0,0) BZ.o ?_));go_end0;exact⟨rfl,Next.ahead jA.o (by rw[HX.o];exact n1)⟩
 ·have HX:Hid _:=hX;have l5:=l4 rfl;clear hX l1 l2 l3 l4;go_enter func41,ntmps41;go_wp2_with (first|(go_at_call 80;refine l5.mono ?_;rintro e w1 ⟨rfl,h1,c1⟩)|(refine jh _ rfl (.tmp 3) rfl w.heap.size ev rfl hl 92 (0,0) BZ.o ?_));go_end0;exact⟨rfl,Next.ahead jA.o (Next.of (by rw[HX.o];exact h1) c1)⟩
 ·rw[aG (by omega),aG (by omega),aG (by omega),aG (by omega)]at hX;have HX:Hid _:=hX;have b1:(kd==1)=false:=by simp;omega
  have b2:(kd==2)=false:=by simp;omega
  have b3:(kd==3)=false:=by simp;omega
  have b4:(kd==4)=false:=by simp;omega
  clear hX hk l1 l2 l3 l4;go_enter func41,ntmps41;go_wp2_with fail;go_end0;exact⟨rfl,Next.ahead jA.o (Next.of (by rw[HX.o];exact HHT.o) (Ch.refl _ _))⟩
structure agM where
 r:RS
 m:MS
 t:TS
def agM.char (x:agM) (c:Int):agM:=⟨x.r,(x.m.take c).1,if(x.m.take c).2.2 then x.t.take (x.m.take c).2.1 else x.t⟩
def agM.chars (x:agM) (l:List Int):agM:=l.foldl agM.char x
def agM.byte (x:agM) (b:Int):agM:=agM.chars ⟨(x.r.take b).1,x.m,x.t⟩ (x.r.take b).2
def agM.feed (x:agM) (l:List Int):agM:=l.foldl agM.byte x
def agM.fresh (rows aa:Nat):agM:=⟨.zero,.zero,TS.fresh rows aa⟩
theorem yJ(x:agM)(l:List Int)(c:Int):x.chars (l++[c])=(x.chars l).char c:=by simp[agM.chars]
theorem KY(x:agM)(l:List Int)(b:Int):x.feed (l++[b])=(x.feed l).byte b:=by simp[agM.feed]
theorem xm(x:agM)(l l':List Int):x.feed (l++l')=(x.feed l).feed l':=by simp[agM.feed]
structure agM.Ok (x:agM):Prop where
 r:x.r.ok
 m:x.m.ok
 t:x.t.Inv
theorem seq_ok(h:s.ok){c:Int}(hc:iF c=true):Gx (s.nP c):=by
 have hf:64≤c∧c≤126:=by unfold iF at hc;exact nG hc
 have h0:=h.c0;refine⟨by simp[MS.nP,h.len],?_,?_,fun _=>hf⟩
 ·show 0≤min s.ct 16∧min s.ct 16≤16;omega
 ·exact h.p
theorem zn{k a c:Int}(hk:k≠4):Gx ([k,a,b,c,0]++z16):=⟨rfl,⟨Int.le_refl 0,show(0:Int)≤16 by decide⟩,Dx,fun h=>absurd h hk⟩
theorem EO(h:s.ok)(c:Int)(ht:(s.cO c).2.2=true):Gx (s.cO c).2.1:=by
 unfold MS.cO at ht ⊢;by_cases h1:48≤c∧c≤57
 ·rw[aS h1]at ht;cases ht
 ·rw[aG h1]at ht ⊢;by_cases h2:c=59
  ·rw[aS h2]at ht;cases ht
  ·rw[aG h2]at ht ⊢;by_cases h3:iF c=true
   ·rw[aS h3];exact seq_ok h h3
   ·rw[aG h3]at ht;cases ht
theorem Oi(c:Int)(ht:(s.dz c).2.2=true):Gx (s.dz c).2.1:=by
 unfold MS.dz at ht ⊢;by_cases h1:c=91
 ·rw[aS h1]at ht;cases ht
 ·rw[aG h1]at ht ⊢;by_cases h2:jZ c=true
  ·rw[aS h2]at ht;cases ht
  ·rw[aG h2]at ht ⊢;by_cases h3:c≤47
   ·rw[aS h3]at ht;cases ht
   ·rw[aG h3]at ht ⊢;by_cases h4:c≤126
    ·rw[aS h4];exact zn (by decide)
    ·rw[aG h4]at ht;cases ht
theorem Qc(h:s.ok)(c:Int)(ht:(s.bT c).2.2=true):Gx (s.bT c).2.1:=by
 unfold MS.bT at ht ⊢;by_cases h1:s.md=0
 ·rw[aS h1];exact zn (by decide)
 ·rw[aG h1]at ht ⊢;by_cases h2:s.md=1
  ·rw[aS h2]at ht ⊢;exact Oi c ht
  ·rw[aG h2]at ht ⊢;by_cases h3:s.md=2
   ·rw[aS h3]at ht ⊢;by_cases h4:lJ c=true
    ·rw[aS h4]at ht;cases ht
    ·rw[aG h4]at ht ⊢;exact EO (MS.ok.third h h3 h.r0 h.r1) c ht
   ·rw[aG h3]at ht ⊢;by_cases h4:s.md=3
    ·rw[aS h4]at ht ⊢;exact EO h c ht
    ·rw[aG h4]at ht ⊢;by_cases h5:s.md=4
     ·rw[aS h5]at ht;by_cases h6:iF c=true
      ·rw[aS h6]at ht;cases ht
      ·rw[aG h6]at ht;cases ht
     ·rw[aG h5]at ht;cases ht
theorem BN(h:s.ok)(c:Int)(ht:(s.take c).2.2=true):Gx (s.take c).2.1:=by
 unfold MS.take at ht ⊢;by_cases h1:c=24∨c=26
 ·rw[aS h1]at ht;cases ht
 ·rw[aG h1]at ht ⊢;by_cases h2:c=27
  ·rw[aS h2]at ht;cases ht
  ·rw[aG h2]at ht ⊢;by_cases h3:s.md=5
   ·rw[aS h3]at ht;cases ht
   ·rw[aG h3]at ht ⊢;by_cases h4:c<32
    ·rw[aS h4];exact zn (by decide)
    ·rw[aG h4]at ht ⊢;by_cases h5:c≠127
     ·rw[aS h5]at ht ⊢;exact Qc h c ht
     ·rw[aG h5]at ht;cases ht
theorem agM.Ok.char{x:agM}(h:x.Ok){c:Int}(h0:0≤c)(h1:c≤10000000):(x.char c).Ok:=by
 refine⟨h.r,h.m.take h0 h1,?_⟩;show(if(x.m.take c).2.2 then x.t.take (x.m.take c).2.1 else x.t).Inv;split
 ·exact h.t.take _
 ·exact h.t
theorem agM.Ok.chars{x:agM}(h:x.Ok):∀(l:List Int),(∀c∈l,0≤c∧c≤10000000)→(x.chars l).Ok:=by
 intro l;induction l generalizing x with
 |nil=>exact fun _=>h
 |cons c l ih=>exact fun hl=>ih (h.char (hl c (by simp)).1 (hl c (by simp)).2) (fun d hd=>hl d (by simp[hd]))
theorem agM.Ok.byte{x:agM}(h:x.Ok)(h0:0≤b)(h1:b<256):(x.byte b).Ok:=agM.Ok.chars (x:=⟨_,_,_⟩) ⟨h.r.take b,h.m,h.t⟩ _ (Du h.r h0 h1)
theorem agM.Ok.feed{x:agM}(h:x.Ok):∀(l:List Int),(∀b∈l,0≤b∧b<256)→(x.feed l).Ok:=by
 intro l;induction l generalizing x with
 |nil=>exact fun _=>h
 |cons c l ih=>exact fun hl=>ih (h.byte (hl c (by simp)).1 (hl c (by simp)).2) (fun d hd=>hl d (by simp[hd]))
structure wU (w:World) (fb:Nat) (L:Lay) (x:agM):Prop where
 rd:jc w fb 0 x.r
 ma:iD w fb 4 x.m
 pt:w.cell? ⟨fb,23,none⟩=some (.pointer (some ⟨L.tb,0,none⟩))
 te:a_ w L x.t
 no:¬L.own fb
 hi:L.Hi
theorem wU.kept{w w':World}{fb:Nat}{L:Lay}{x:agM}(h:wU w fb L x){P:Nat→Prop}(c:Ch P w w')(hf:¬P fb)(hp:∀k,L.own k→¬P k):wU w' fb L x:=by have hb:=c.block fb h.ma.lt hf;exact⟨h.rd.kept hb,h.ma.kept hb,(eT hb).trans h.pt,h.te.kept c hp,h.no,h.hi⟩
theorem wU.reader{x:agM}(h:wU w fb L x){v v':Value}(k:Kl v v' fb 0 w w'){r:RS}(hr:jc w' fb 0 r)(hv:∀i,L.own i→v.ownBlock≠some i):wU w' fb L ⟨r,x.m,x.t⟩:=by
 refine⟨hr,⟨h.ma.len,fun j y hy=>(k.cell _ (Or.inr (by omega))).trans (h.ma.ZN j y hy),fun j hj=>(k.frozen _).trans (h.ma.fr j hj)⟩,(k.cell 23 (Or.inr (by omega))).trans h.pt,?_,h.no,h.hi⟩
 exact h.te.kept (P:=fun i=>i=fb∨v.ownBlock=some i) ⟨k.os,k.tape,k.output,k.size,fun i hi hn=>k.block i hi (fun e=>hn (.inl e)) (fun e=>hn (.inr e))⟩ (fun i hi hn=>by
  rcases hn with e|e
  ·exact h.no (e▸hi)
  ·exact hv i hi e)
theorem wU.machine{x:agM}(h:wU w fb L x)(k:Km fb 4 w w'){m:MS}(hm:iD w' fb 4 m):wU w' fb L ⟨x.r,m,x.t⟩:=by refine⟨⟨(k.cell 0 (Or.inl (by omega))).trans h.rd.c0,(k.cell 1 (Or.inl (by omega))).trans h.rd.c1,(k.cell 2 (Or.inl (by omega))).trans h.rd.c2,(k.cell 3 (Or.inl (by omega))).trans h.rd.c3,fun j hj=>(k.frozen _).trans (h.rd.f j hj)⟩,hm,(k.cell 23 (Or.inr (by omega))).trans h.pt,?_,h.no,h.hi⟩;exact h.te.kept (P:=fun i=>i=fb) ⟨k.os,k.tape,k.output,k.size,fun i hi hn=>k.block i hi hn⟩ (fun i hi e=>h.no (e▸hi))
theorem wU.lt{w:World}{fb:Nat}{L:Lay}{x:agM}(h:wU w fb L x):fb<w.heap.size:=h.ma.lt
end Go.Proofs.YtheibfffilomcabGreatDoor
