import Derived.Test.YtheibfffilomcaaGreatDoorTmaU
import Derived.Test.YtheibfffilomcaaGreatDoorTwU
import Derived.Test.YtheibfffilomcaaGreatDoorMwaU
import Derived.Test.YtheibfffilomcaaGreatDoorEqcU
set_option linter.all false
set_option maxRecDepth 100000
set_option maxHeartbeats 2000000
namespace Go.Proofs.YtheibfffilomcaaGreatDoor
open Go.RowKit Go.Proofs.Tryz
variable {s:MS} {w w':World} {b:Int} {fb:Nat} {L:Lay}
theorem TS.Inv.move{s:TS}(h:s.Inv)(f p0 p1:Int):(s.move f p0 p1).Inv:=by
 have ht:0≤TS.times p0:=by unfold TS.times;omega
 unfold TS.move
 repeat' split
 ·exact h.rise _ ht
 ·exact h.sink _ ht
 ·exact h.bQ _
 ·exact h.bQ _
 ·exact h.bQ _
 ·exact h.bJ _
 ·exact(h.bJ _).bQ _
 ·exact h
theorem TS.Inv.dY{s:TS}(h:s.Inv)(what:Int):(s.dY what).Inv:=by
 unfold TS.dY
 repeat' split
 ·exact h.setCur (by rw[fB];exact h.ql)
 ·exact h.setCur (by rw[fB];exact h.ql)
 ·exact h.setCur (by rw[fB];exact h.ql)
 ·exact h
theorem TS.Inv.edit{s:TS}(h:s.Inv)(f p0:Int):(s.edit f p0).Inv:=by
 unfold TS.edit;dsimp only
 repeat' split
 ·exact(h.dD _).dY _
 ·exact h.dD _
 ·exact h.aN _
 ·exact h.aN _
 ·exact h.aN _
 ·exact(h.setCur (by rw[qi];exact h.ql)).bQ 0
 ·exact h
 ·exact(h.setCur (by rw[uj];exact h.ql)).bQ 0
 ·exact h
 ·exact h.gQ _
 ·exact h.h_ _
 ·exact h
theorem TS.Inv.kC{s:TS}(h:s.Inv)(f:Int)(ps:List Int)(ct:Nat):(s.kC f ps ct).Inv:=by
 unfold TS.kC
 repeat' split
 ·exact h.gU _ _ (by unfold TS.times;omega)
 ·exact h.fM _
 ·exact TS.Inv.turns _ h
 ·exact h.upd rfl rfl rfl rfl rfl rfl rfl h.row0 h.jK h.jA h.jD h.iO h.tb h.bot h.sh
 ·exact h
 ·exact h
theorem TS.Inv.sequence{s:TS}(h:s.Inv)(mk f:Int)(ps:List Int)(ct:Nat):(s.sequence mk f ps ct).Inv:=by
 unfold TS.sequence;dsimp only
 repeat' split
 ·exact((h.aF.move _ _ _).edit _ _).kC _ _ _
 ·exact((h.move _ _ _).edit _ _).kC _ _ _
 ·exact TS.Inv.sets _ _ h
 ·exact h
 ·exact h
theorem Fq(L:Lay)(s:TS)(w:World)(ht:cO w L s)(hi:s.Inv)(ev:List Int)(hev:ev.length=21)(ct:Nat)(hct:ev.getD 4 0=(ct:Int))(abZ:ct≤16)(hps:∀x∈ev.drop 5,-1≤x∧x≤65535)(hf:64≤ev.getD 3 0∧ev.getD 3 0≤126):
 Calls prog 58 #[.pointer (some ⟨L.tb,0,none⟩),.agg (aA ev)] w fun e w'=>e= .returned (.tuple #[])∧cO w' L (s.sequence (ev.getD 2 0) (ev.getD 3 0) (ev.drop 5) ct)∧Ch L.own w w':=by
 have HTW:Hid _:=ht;have HT0:=ht.sm ((Ch.refl (fun _=>False) w).alloc (.cells (aA ev) 46));have Em:Hid ((w.alloc (.cells (aA ev) 46)).heap[w.heap.size]? =some (.cells (aA ev) 46 (0,0))):=bV _ _;have e2:=kD (j:=2) Em.o (by omega);have e3:=kD (j:=3) Em.o (by omega);have e4:=kD (j:=4) Em.o (by omega);have g0:(ev.drop 5).getD 0 0=ev.getD 5 0:=by simp[List.getD]
 have g1:(ev.drop 5).getD 1 0=ev.getD 6 0:=by simp[List.getD]
 have hb5: -1≤ev.getD 5 0∧ev.getD 5 0≤65535:=by rw[←g0];refine hps _ ?_;simp[List.getD,eG (show 5<ev.length by omega)];exact List.mem_iff_getElem.2 ⟨0,by simp;omega,by simp⟩
 have hb6: -1≤ev.getD 6 0∧ev.getD 6 0≤65535:=by rw[←g1];refine hps _ ?_;simp[List.getD,eG (show 6<ev.length by omega)];exact List.mem_iff_getElem.2 ⟨1,by simp;omega,by simp⟩
 rw[hct]at e4;have ng:Hid (Ch L.own w (w.alloc (.cells (aA ev) 46))):=(Ch.refl _ _).alloc _;have Di:Hid (¬L.own w.heap.size):=fun h=>by have:=ht.pQ h;omega
 have FP:Hid (w.heap.size<(w.alloc (.cells (aA ev) 46)).heap.size):=by show _<_;simp
 have hlt:=ht.lt;have lm:∀t u,cO u L t→t.Inv→_:=fun t u h1 h2=>Rf L t u h1 h2 ev hev hb5 hb6;have le:∀t u,cO u L t→t.Inv→_:=fun t u h1 h2=>Qr L t u h1 h2 ev hev hb5;have la:∀t u,cO u L t→t.Inv→_:=fun t u h1 h2=>Jv L t u h1 h2 ev hev ct hct abZ hps;have hX:s.sequence (ev.getD 2 0) (ev.getD 3 0) (ev.drop 5) ct=if ev.getD 2 0=0 then(((if TS.mZ (ev.getD 3 0)then s.aF else s).move (ev.getD 3 0) (ev.getD 5 0) (ev.getD 6 0)).edit (ev.getD 3 0) (ev.getD 5 0)).kC (ev.getD 3 0) (ev.drop 5) ct
  else if ev.getD 2 0=63 then(if ev.getD 3 0=104∨ev.getD 3 0=108 then s.sets (decide (ev.getD 3 0=104)) ((ev.drop 5).take ct)else s)else s:=by unfold TS.sequence;rw[g0,g1]
 have hns:((ev.drop 5).take ct).length=ct:=by rw[kg,o8];omega
 have hcs:∀u:World,u.heap[w.heap.size]? =some (.cells (aA ev) 46 (0,0))→∀j x,((ev.drop 5).take ct)[j]? =some x→u.cell? ⟨w.heap.size,5+j,none⟩=some (.int .i64 x):=fun u hu j x hx=>by
  rw[mJ]at hx;split at hx
  ·rw[rf]at hx;have:=kD (j:=5+j) hu (gJ.1 hx).1;rw[this];simp[List.getD,hx]
  ·cases hx
 have Wz:Hid _:=hcs;generalize s.sequence (ev.getD 2 0) (ev.getD 3 0) (ev.drop 5) ct=X at*;have HI:Hid s.Inv:=hi;have HT:Hid _:=HT0;have hst:=Q3 (ev.getD 3 0) hf;have lx:∀u,_:=fun u=>Nl (ev.getD 3 0) hf u;have c28:=ht.c 28 _ rfl;have f28:=ht.f 28;have vu:IntKind.u8.wrap (ev.getD 3 0)=ev.getD 3 0:=by rw[IntKind.wrap_u8];omega
 clear ht hi HT0 g0 g1 hcs hct hb5 hb6 hps;generalize ev.getD 2 0=mk at*;generalize ev.getD 3 0=f at*;generalize ev.getD 5 0=p0 at*;generalize ev.getD 6 0=p1 at*;generalize ev.drop 5=ps at*;by_cases hm:mk=0
 ·subst hm;rw[ak rfl]at hX;cases hs:TS.mZ f with
  |true=>
   rw[hs]at hX hst;rw[ak rfl]at hX;have hq:0≤fH f:=pV hst;generalize fH f=r at*;have HX:Hid _:=hX;have HTB:Hid (cO ((w.setCell ⟨L.tb,28,none⟩ (.bool false)).alloc (.cells (aA ev) 46)) L s.aF):=(HTW.o.set (s':=s.aF) 28 (.bool false) rfl rfl rfl rfl rfl).sm ((Ch.refl _ _).alloc _);have Zp:Hid (Ch L.own w ((w.setCell ⟨L.tb,28,none⟩ (.bool false)).alloc (.cells (aA ev) 46))):=((Ch.refl _ _).nJ _ _).alloc _;have WN:Hid s.aF.Inv:=HI.o.aF;have F8:Hid (((w.setCell ⟨L.tb,28,none⟩ (.bool false)).alloc (.cells (aA ev) 46)).heap[w.heap.size]? =some (.cells (aA ev) 46 (0,0))):=by have:=bV (w.setCell ⟨L.tb,28,none⟩ (.bool false)) (.cells (aA ev) 46);rwa[show(w.setCell ⟨L.tb,28,none⟩ (.bool false)).heap.size=w.heap.size by simp[World.setCell]]at this
   have ZY:Hid (w.heap.size<((w.setCell ⟨L.tb,28,none⟩ (.bool false)).alloc (.cells (aA ev) 46)).heap.size):=aK F8.o;clear hX hst hs HT ng Em;go_enter func58,ntmps58;go_wp2_with (first|(go_at_call 110;refine(lx _).mono ?_;rintro e w0 ⟨rfl,hw1⟩;have hw2:=hw1.symm;subst hw2)|(go_at_call 111;refine(lm s.aF _ HTB.o WN.o).mono ?_;rintro e w1 ⟨rfl,h1,c1⟩;have he1:=(c1.block w.heap.size ZY.o Di.o).trans F8.o)|(go_at_call 112;refine(le _ _ h1 (WN.o.move _ _ _)).mono ?_;rintro e w2 ⟨rfl,h2,c2⟩;have he2:=(c2.block w.heap.size (fJ ZY.o c1.size) Di.o).trans he1)|(go_at_call 113;refine(la _ _ h2 ((WN.o.move _ _ _).edit _ _)).mono ?_;rintro e w3 ⟨rfl,h3,c3⟩)|(refine fA _ rfl (.tmp 3) rfl w.heap.size ev rfl hev 46 (0,0) he2 ?_)|(refine fA _ rfl (.tmp 3) rfl w.heap.size ev rfl hev 46 (0,0) he1 ?_)|(refine fA _ rfl (.tmp 3) rfl w.heap.size ev rfl hev 46 (0,0) F8.o ?_));go_end0;exact⟨rfl,by rw[HX.o];exact h3,Zp.o.trans (c1.trans (c2.trans c3))⟩
  |false=>rw[hs]at hX hst;rw[ai (by simp)]at hX;have hq:¬0≤fH f:=of_decide_eq_false hst;have dq:decide (0≤fH f)=false:=hst;generalize fH f=r at*;have HX:Hid _:=hX;have HTB:Hid (cO (w.alloc (.cells (aA ev) 46)) L s):=HT.o;have Zp:Hid (Ch L.own w (w.alloc (.cells (aA ev) 46))):=ng.o;have WN:Hid s.Inv:=HI.o;have F8:Hid ((w.alloc (.cells (aA ev) 46)).heap[w.heap.size]? =some (.cells (aA ev) 46 (0,0))):=Em.o;have ZY:Hid (w.heap.size<(w.alloc (.cells (aA ev) 46)).heap.size):=FP.o;clear hX hst hs HT ng Em;go_enter func58,ntmps58;go_wp2_with (first|(go_at_call 110;refine(lx _).mono ?_;rintro e w0 ⟨rfl,hw1⟩;have hw2:=hw1.symm;subst hw2)|(go_at_call 111;refine(lm s _ HTB.o WN.o).mono ?_;rintro e w1 ⟨rfl,h1,c1⟩;have he1:=(c1.block w.heap.size ZY.o Di.o).trans F8.o)|(go_at_call 112;refine(le _ _ h1 (WN.o.move _ _ _)).mono ?_;rintro e w2 ⟨rfl,h2,c2⟩;have he2:=(c2.block w.heap.size (fJ ZY.o c1.size) Di.o).trans he1)|(go_at_call 113;refine(la _ _ h2 ((WN.o.move _ _ _).edit _ _)).mono ?_;rintro e w3 ⟨rfl,h3,c3⟩)|(refine fA _ rfl (.tmp 3) rfl w.heap.size ev rfl hev 46 (0,0) he2 ?_)|(refine fA _ rfl (.tmp 3) rfl w.heap.size ev rfl hev 46 (0,0) he1 ?_)|(refine fA _ rfl (.tmp 3) rfl w.heap.size ev rfl hev 46 (0,0) F8.o ?_));go_end0;exact⟨rfl,by rw[HX.o];exact h3,Zp.o.trans (c1.trans (c2.trans c3))⟩
 ·rw[ai hm]at hX;have b0:(mk==0)=false:=by simp[hm]
  by_cases hm2:mk=63
  ·rw[ak hm2]at hX;have b1:(mk==63)=true:=by simp[hm2]
   rcases(show f=104∨f=108∨¬(f=104∨f=108) by omega)with rfl|rfl|hq
   ·rw[ak (by omega)]at hX;have HX:Hid _:=hX;have WA:=Wz.o _ Em.o;have i1:(ct:Int)≤16:=by omega
    clear hX hm hm2;go_enter func58,ntmps58;go_wp2_with fail;generalize hW:w.alloc (Obj.cells (aA ev) 46)=W at*;generalize hlb:w.heap.size=lb at*;have HT1:cO ({W with drawn:=W.drawn+1}:World) L s:=HT.o.sm ((Ch.refl _ _).drewN 1);have l1:=Mi L s ({W with drawn:=W.drawn+1}:World) HT1 HI.o true lb 5 16 (ps.take ct) (by omega) WA Di.o FP.o;rw[hns]at l1;have HH:World.cell? ({W with drawn:=W.drawn+1}:World) ⟨lb,4,none⟩=some (.int .i64 (ct:Int))∧World.cell? ({W with drawn:=W.drawn+1}:World) ⟨lb,3,none⟩=some (.int .i64 104):=⟨e4,e3⟩;refine dX (S:=fun x=>x.cell? ⟨lb,4,none⟩=some (.int .i64 (ct:Int))∧x.cell? ⟨lb,3,none⟩=some (.int .i64 104)) aX ?_;refine ay 0 1 2 3 HH ?_;simp only[ag,af];refine aj 4 HH ?_ (v:=.slice (some ⟨lb,5,none⟩) ct 16);refine dW 5 6 HH ?_;refine aj 7 HH ?_ (v:=.bool true);simp only[ag,af];refine av 8 ?_;refine a_ (vs:=[.pointer (some ⟨L.tb,0,none⟩),.slice (some ⟨lb,5,none⟩) ct 16,.bool true]) (R:=fun v w'=>v= .tuple #[]∧cO w' L X∧Ch L.own W w') (l1.mono fun e w' h=>⟨_,h.1,rfl,by rw[HX.o];exact h.2.1,⟨h.2.2.os,h.2.2.tape,h.2.2.output,h.2.2.size,h.2.2.block⟩⟩) ?_;rintro v2 w9 ⟨rfl,t9,c9⟩;refine⟨⟨(dA (c9.block lb FP.o Di.o)).trans e4,(dA (c9.block lb FP.o Di.o)).trans e3⟩,?_⟩;simp only[ag,af];refine aC ?_;have HF:Hid (cO w9 L X∧Ch L.own w w9):=⟨t9,ng.o.trans c9⟩;clear t9 c9 HT1 HH l1;go_wp2_with fail;go_end0;exact⟨rfl,HF.o.1,HF.o.2⟩
   ·rw[ak (by omega)]at hX;have HX:Hid _:=hX;have WA:=Wz.o _ Em.o;have i1:(ct:Int)≤16:=by omega
    clear hX hm hm2;go_enter func58,ntmps58;go_wp2_with fail;generalize hW:w.alloc (Obj.cells (aA ev) 46)=W at*;generalize hlb:w.heap.size=lb at*;have HT1:cO ({W with drawn:=W.drawn+1}:World) L s:=HT.o.sm ((Ch.refl _ _).drewN 1);have l1:=Mi L s ({W with drawn:=W.drawn+1}:World) HT1 HI.o false lb 5 16 (ps.take ct) (by omega) WA Di.o FP.o;rw[hns]at l1;have HH:World.cell? ({W with drawn:=W.drawn+1}:World) ⟨lb,4,none⟩=some (.int .i64 (ct:Int))∧World.cell? ({W with drawn:=W.drawn+1}:World) ⟨lb,3,none⟩=some (.int .i64 108):=⟨e4,e3⟩;refine dX (S:=fun x=>x.cell? ⟨lb,4,none⟩=some (.int .i64 (ct:Int))∧x.cell? ⟨lb,3,none⟩=some (.int .i64 108)) aX ?_;refine ay 0 1 2 3 HH ?_;simp only[ag,af];refine aj 4 HH ?_ (v:=.slice (some ⟨lb,5,none⟩) ct 16);refine dW 5 6 HH ?_;refine aj 7 HH ?_ (v:=.bool false);simp only[ag,af];refine av 8 ?_;refine a_ (vs:=[.pointer (some ⟨L.tb,0,none⟩),.slice (some ⟨lb,5,none⟩) ct 16,.bool false]) (R:=fun v w'=>v= .tuple #[]∧cO w' L X∧Ch L.own W w') (l1.mono fun e w' h=>⟨_,h.1,rfl,by rw[HX.o];exact h.2.1,⟨h.2.2.os,h.2.2.tape,h.2.2.output,h.2.2.size,h.2.2.block⟩⟩) ?_;rintro v2 w9 ⟨rfl,t9,c9⟩;refine⟨⟨(dA (c9.block lb FP.o Di.o)).trans e4,(dA (c9.block lb FP.o Di.o)).trans e3⟩,?_⟩;simp only[ag,af];refine aC ?_;have HF:Hid (cO w9 L X∧Ch L.own w w9):=⟨t9,ng.o.trans c9⟩;clear t9 c9 HT1 HH l1;go_wp2_with fail;go_end0;exact⟨rfl,HF.o.1,HF.o.2⟩
   ·rw[ai hq]at hX;have HX:Hid _:=hX;have b2:(f==104)=false:=by simp;omega
    have b3:(f==108)=false:=by simp;omega
    clear hX hq hm hm2;go_enter func58,ntmps58;go_wp2_with fail;go_end0;exact⟨rfl,by rw[HX.o];exact HT.o,ng.o⟩
  ·rw[ai hm2]at hX;have b1:(mk==63)=false:=by simp[hm2]
   have HX:Hid _:=hX;clear hX hm hm2;go_enter func58,ntmps58;go_wp2_with fail;go_end0;exact⟨rfl,by rw[HX.o];exact HT.o,ng.o⟩
def TS.take (s:TS) (ev:List Int):TS:=
 if ev.getD 0 0=1 then s.print (ev.getD 1 0) (j_ (ev.getD 1 0)).toNat else if ev.getD 0 0=2 then s.control (ev.getD 1 0)
 else if ev.getD 0 0=3 then s.escape (ev.getD 2 0) (ev.getD 3 0)else if ev.getD 0 0=4 then s.sequence (ev.getD 2 0) (ev.getD 3 0) (ev.drop 5) (ev.getD 4 0).toNat else s
structure I_ (ev:List Int):Prop where
 len:ev.length=21
 ct:0≤ev.getD 4 0∧ev.getD 4 0≤16
 ps:∀x∈ev.drop 5,-1≤x∧x≤65535
 fin:ev.getD 0 0=4→64≤ev.getD 3 0∧ev.getD 3 0≤126
theorem uk(c:Int):0≤j_ c∧j_ c≤2:=by
 unfold j_;have h:∀l:List (Int × Int × Int),(∀x∈l,0≤x.2.2∧x.2.2≤2)→0≤oK c l∧oK c l≤2:=by
  intro l;induction l with
  |nil=>intro _;simp[oK]
  |cons x l ih=>
   intro hx;obtain⟨a,b,y⟩:=x;simp only[oK];split
   ·exact hx (a,b,y) (by simp)
   ·exact ih fun z hz=>hx z (by simp[hz])
 refine h xL ?_;intro x hx;simp only[xL,kK,pX,pY]at hx;rcases hx with rfl|rfl|rfl|rfl|rfl|rfl|rfl|rfl|rfl|rfl|rfl|rfl|rfl|rfl<;>exact⟨by decide,by decide⟩
theorem TS.Inv.oV{s:TS}(h:s.Inv):s.oV.Inv:=h.bQ _
theorem TS.Inv.step{s:TS}(h:s.Inv)(wd:Nat):(s.step wd).Inv:=by have:=h.bQ (s.col+(wd:Int));exact this.upd rfl rfl rfl rfl rfl rfl rfl this.row0 this.jK this.jA this.jD this.iO this.tb this.bot this.sh
theorem TS.Inv.fo{s:TS}(h:s.Inv)(c:Int)(wd:Nat):(s.fo c wd).Inv:=by
 unfold TS.fo;split
 ·exact TS.Inv.step (TS.Inv.aN (h.aN _) _) _
 ·exact TS.Inv.step (h.aN _) _
theorem TS.Inv.gH{s:TS}(h:s.Inv):s.gH.Inv:=by
 unfold TS.gH;split
 ·exact h.aF.bE
 ·exact h
theorem TS.Inv.print{s:TS}(h:s.Inv)(c:Int)(wd:Nat):(s.print c wd).Inv:=by
 unfold TS.print
 repeat' split
 ·exact h
 ·exact h.gH.bE.fo _ _
 ·exact h.gH
 ·exact h.gH.fo _ _
theorem TS.Inv.use{s:TS}(h:s.Inv)(u:Int):({s with use:=u}:TS).Inv:=h.upd rfl rfl rfl rfl rfl rfl rfl h.row0 h.jK h.jA h.jD h.iO h.tb h.bot h.sh
theorem TS.Inv.control{s:TS}(h:s.Inv)(c:Int):(s.control c).Inv:=by
 have h1:(if 8≤c∧c≤13 then s.aF else s).Inv:=by
  split
  ·exact h.aF
  ·exact h
 unfold TS.control;dsimp only;generalize (if 8≤c∧c≤13 then s.aF else s)=t at*
 repeat' split
 ·exact h1.bQ _
 ·exact h1.oV
 ·exact h1.down
 ·exact h1.bQ _
 ·exact h1.use 1
 ·exact h1.use 0
 ·exact h1
theorem TS.Inv.save{s:TS}(h:s.Inv):s.save.Inv:=by
 unfold TS.save;split
 ·exact⟨h.r1,h.r2,h.c1,h.c2,h.row0,h.jK,h.jA,h.jD,h.iO,h.tb,h.bot,h.sh,h.l0,h.l1,h.lt,⟨h.row0,h.jK⟩,⟨h.jA,h.jD⟩,h.Y6,h.Y5⟩
 ·exact⟨h.r1,h.r2,h.c1,h.c2,h.row0,h.jK,h.jA,h.jD,h.iO,h.tb,h.bot,h.sh,h.l0,h.l1,h.lt,h.Y4,h.Y3,⟨h.row0,h.jK⟩,⟨h.jA,h.jD⟩⟩
theorem TS.Inv.restore{s:TS}(h:s.Inv):s.restore.Inv:=by
 have hv:(0≤s.saved.row∧s.saved.row<(s.rows:Int))∧(0≤s.saved.col∧s.saved.col<(s.ah:Int)):=by
  unfold TS.saved;split
  ·exact⟨h.Y4,h.Y3⟩
  ·exact⟨h.Y6,h.Y5⟩
 have hr:0≤(if s.saved.origin then TS.bg s.saved.row s.top s.bottom else s.saved.row)∧(if s.saved.origin then TS.bg s.saved.row s.top s.bottom else s.saved.row)<(s.rows:Int):=by
  have:=h.iO;have:=h.tb;have:=h.bot;split
  ·unfold TS.bg;omega
  ·exact hv.1
 exact h.upd rfl rfl rfl rfl rfl rfl rfl hr.1 hr.2 hv.2.1 hv.2.2 h.iO h.tb h.bot h.sh
theorem TS.Inv.bare{s:TS}(h:s.Inv)(f:Int):(s.bare f).Inv:=by
 unfold TS.bare
 repeat' split
 ·exact h.save
 ·exact h.restore
 ·exact h.aF.down
 ·exact h.aF.up
 ·exact h.aF.bE
 ·exact h.Fv _ (by rw[lG];exact h.lt)
 ·exact TS.Inv.fresh ⟨h.r1,h.r2⟩ ⟨h.c1,h.c2⟩
 ·exact h
theorem TS.Inv.escape{s:TS}(h:s.Inv)(mk f:Int):(s.escape mk f).Inv:=by
 unfold TS.escape
 repeat' split
 ·exact h.bare f
 ·exact h.upd rfl rfl rfl rfl rfl rfl rfl h.row0 h.jK h.jA h.jD h.iO h.tb h.bot h.sh
 ·exact h.upd rfl rfl rfl rfl rfl rfl rfl h.row0 h.jK h.jA h.jD h.iO h.tb h.bot h.sh
 ·exact h
theorem TS.Inv.take{s:TS}(h:s.Inv)(ev:List Int):(s.take ev).Inv:=by
 unfold TS.take
 repeat' split
 ·exact h.print _ _
 ·exact h.control _
 ·exact h.escape _ _
 ·exact h.sequence _ _ _ _
 ·exact h
structure zm (w:World):Prop where
 sp:A9 w
 le:qb w
 st:mE w
theorem zm.kept{w w':World}(h:zm w)(hb:∀k,k≤2→w'.heap[k]? =w.heap[k]?):zm w':=⟨h.sp.kept (hb 1 (by omega)),h.le.kept (hb 0 (by omega)),h.st.kept (hb 2 (by omega))⟩
theorem zm.ch(h:zm w){P:Nat→Prop}(c:Ch P w w')(hp:∀k,k≤2→¬P k):zm w':=by obtain⟨t,fr,h2⟩:=h.st;have hs:2<w.heap.size:=aK h2;exact h.kept fun k hk=>c.block k (by omega) (hp k hk)
theorem Ei(L:Lay)(s:TS)(w:World)(ht:cO w L s)(hi:s.Inv)(hL:L.Hi)(htb:zm w)(ev:List Int)(hev:I_ ev):Calls prog 27 #[.pointer (some ⟨L.tb,0,none⟩),.agg (aA ev)] w fun e w'=>e= .returned (.tuple #[])∧Next L w w' (s.take ev):=by
 have HT:=ht.sm ((Ch.refl (fun _=>False) w).alloc (.cells (aA ev) 46));have Em:Hid ((w.alloc (.cells (aA ev) 46)).heap[w.heap.size]? =some (.cells (aA ev) 46 (0,0))):=bV _ _;have hl:=hev.len;have e0:=kD (j:=0) Em.o (by omega);have e1:=kD (j:=1) Em.o (by omega);have ng:Hid (Ch L.own w (w.alloc (.cells (aA ev) 46))):=(Ch.refl _ _).alloc _;have htw:=htb.ch ((Ch.refl (fun _=>False) w).alloc (.cells (aA ev) 46)) (fun _ _ h=>h);have hX:s.take ev=if ev.getD 0 0=1 then s.print (ev.getD 1 0) (j_ (ev.getD 1 0)).toNat else if ev.getD 0 0=2 then s.control (ev.getD 1 0)
  else if ev.getD 0 0=3 then s.escape (ev.getD 2 0) (ev.getD 3 0)else if ev.getD 0 0=4 then s.sequence (ev.getD 2 0) (ev.getD 3 0) (ev.drop 5) (ev.getD 4 0).toNat else s:=rfl
 have hw:=uk (ev.getD 1 0);have l1:=NC L s _ HT hi hL htw.sp htw.st (ev.getD 1 0) (j_ (ev.getD 1 0)).toNat (by omega) (by omega);have l2:=Gt L s _ HT hi (ev.getD 1 0);have l3:=JM L s _ HT hi ev hl;have l4:ev.getD 0 0=4→_:=fun h4=>Fq L s _ HT hi ev hl (ev.getD 4 0).toNat (by have:=hev.ct;omega) (by have:=hev.ct;omega) hev.ps (hev.fin h4);generalize s.take ev=X at*;have HHT:Hid _:=HT;clear ht hi hL htb htw hev HT;generalize ev.getD 0 0=kd at*;generalize ev.getD 1 0=ru at*;rcases(show kd=1∨kd=2∨kd=3∨kd=4∨¬(kd=1∨kd=2∨kd=3∨kd=4) by omega)with rfl|rfl|rfl|rfl|hk
 ·have HX:Hid _:=hX;clear hX l2 l3 l4;go_enter func27,ntmps27;go_wp2_with (go_at_call 55;refine l1.mono ?_;rintro e w1 ⟨rfl,h1,c1⟩);go_end0;exact⟨rfl,Next.ahead ng.o (Next.of (by rw[HX.o];exact h1) c1)⟩
 ·have HX:Hid _:=hX;clear hX l1 l3 l4;go_enter func27,ntmps27;go_wp2_with (go_at_call 56;refine l2.mono ?_;rintro e w1 ⟨rfl,h1,c1⟩);go_end0;exact⟨rfl,Next.ahead ng.o (Next.of (by rw[HX.o];exact h1) c1)⟩
 ·have HX:Hid _:=hX;clear hX l1 l2 l4;go_enter func27,ntmps27;go_wp2_with (first|(go_at_call 57;refine l3.mono ?_;rintro e w1 ⟨rfl,n1⟩)|(refine fA _ rfl (.tmp 3) rfl w.heap.size ev rfl hl 46 (0,0) Em.o ?_));go_end0;exact⟨rfl,Next.ahead ng.o (by rw[HX.o];exact n1)⟩
 ·have HX:Hid _:=hX;have l5:=l4 rfl;clear hX l1 l2 l3 l4;go_enter func27,ntmps27;go_wp2_with (first|(go_at_call 58;refine l5.mono ?_;rintro e w1 ⟨rfl,h1,c1⟩)|(refine fA _ rfl (.tmp 3) rfl w.heap.size ev rfl hl 46 (0,0) Em.o ?_));go_end0;exact⟨rfl,Next.ahead ng.o (Next.of (by rw[HX.o];exact h1) c1)⟩
 ·rw[ai (by omega),ai (by omega),ai (by omega),ai (by omega)]at hX;have HX:Hid _:=hX;have b1:(kd==1)=false:=by simp;omega
  have b2:(kd==2)=false:=by simp;omega
  have b3:(kd==3)=false:=by simp;omega
  have b4:(kd==4)=false:=by simp;omega
  clear hX hk l1 l2 l3 l4;go_enter func27,ntmps27;go_wp2_with fail;go_end0;exact⟨rfl,Next.ahead ng.o (Next.of (by rw[HX.o];exact HHT.o) (Ch.refl _ _))⟩
structure akA where
 r:RS
 m:MS
 t:TS
def akA.char (x:akA) (c:Int):akA:=⟨x.r,(x.m.take c).1,if(x.m.take c).2.2 then x.t.take (x.m.take c).2.1 else x.t⟩
def akA.chars (x:akA) (l:List Int):akA:=l.foldl akA.char x
def akA.byte (x:akA) (b:Int):akA:=akA.chars ⟨(x.r.take b).1,x.m,x.t⟩ (x.r.take b).2
def akA.feed (x:akA) (l:List Int):akA:=l.foldl akA.byte x
def akA.fresh (rows ah:Nat):akA:=⟨.zero,.zero,TS.fresh rows ah⟩
theorem Bh(x:akA)(l:List Int)(c:Int):x.chars (l++[c])=(x.chars l).char c:=by simp[akA.chars]
theorem Na(x:akA)(l:List Int)(b:Int):x.feed (l++[b])=(x.feed l).byte b:=by simp[akA.feed]
theorem GJ(x:akA)(l l':List Int):x.feed (l++l')=(x.feed l).feed l':=by simp[akA.feed]
structure akA.Ok (x:akA):Prop where
 r:x.r.ok
 m:x.m.ok
 t:x.t.Inv
theorem seq_ok(h:s.ok){c:Int}(hc:fe c=true):I_ (s.nA c):=by
 have hf:64≤c∧c≤126:=by unfold fe at hc;exact pV hc
 have h0:=h.c0;refine⟨by simp[MS.nA,h.len],?_,?_,fun _=>hf⟩
 ·show 0≤min s.ct 16∧min s.ct 16≤16;omega
 ·exact h.p
theorem BI{k a c:Int}(hk:k≠4):I_ ([k,a,b,c,0]++z16):=⟨rfl,⟨Int.le_refl 0,show(0:Int)≤16 by decide⟩,FN,fun h=>absurd h hk⟩
theorem Hw(h:s.ok)(c:Int)(ht:(s.dJ c).2.2=true):I_ (s.dJ c).2.1:=by
 unfold MS.dJ at ht ⊢;by_cases h1:48≤c∧c≤57
 ·rw[ak h1]at ht;cases ht
 ·rw[ai h1]at ht ⊢;by_cases h2:c=59
  ·rw[ak h2]at ht;cases ht
  ·rw[ai h2]at ht ⊢;by_cases h3:fe c=true
   ·rw[ak h3];exact seq_ok h h3
   ·rw[ai h3]at ht;cases ht
theorem Qu(c:Int)(ht:(s.eZ c).2.2=true):I_ (s.eZ c).2.1:=by
 unfold MS.eZ at ht ⊢;by_cases h1:c=91
 ·rw[ak h1]at ht;cases ht
 ·rw[ai h1]at ht ⊢;by_cases h2:lC c=true
  ·rw[ak h2]at ht;cases ht
  ·rw[ai h2]at ht ⊢;by_cases h3:c≤47
   ·rw[ak h3]at ht;cases ht
   ·rw[ai h3]at ht ⊢;by_cases h4:c≤126
    ·rw[ak h4];exact BI (by decide)
    ·rw[ai h4]at ht;cases ht
theorem Sw(h:s.ok)(c:Int)(ht:(s.dm c).2.2=true):I_ (s.dm c).2.1:=by
 unfold MS.dm at ht ⊢;by_cases h1:s.md=0
 ·rw[ak h1];exact BI (by decide)
 ·rw[ai h1]at ht ⊢;by_cases h2:s.md=1
  ·rw[ak h2]at ht ⊢;exact Qu c ht
  ·rw[ai h2]at ht ⊢;by_cases h3:s.md=2
   ·rw[ak h3]at ht ⊢;by_cases h4:mU c=true
    ·rw[ak h4]at ht;cases ht
    ·rw[ai h4]at ht ⊢;exact Hw (MS.ok.third h h3 h.r0 h.r1) c ht
   ·rw[ai h3]at ht ⊢;by_cases h4:s.md=3
    ·rw[ak h4]at ht ⊢;exact Hw h c ht
    ·rw[ai h4]at ht ⊢;by_cases h5:s.md=4
     ·rw[ak h5]at ht;by_cases h6:fe c=true
      ·rw[ak h6]at ht;cases ht
      ·rw[ai h6]at ht;cases ht
     ·rw[ai h5]at ht;cases ht
theorem Ea(h:s.ok)(c:Int)(ht:(s.take c).2.2=true):I_ (s.take c).2.1:=by
 unfold MS.take at ht ⊢;by_cases h1:c=24∨c=26
 ·rw[ak h1]at ht;cases ht
 ·rw[ai h1]at ht ⊢;by_cases h2:c=27
  ·rw[ak h2]at ht;cases ht
  ·rw[ai h2]at ht ⊢;by_cases h3:s.md=5
   ·rw[ak h3]at ht;cases ht
   ·rw[ai h3]at ht ⊢;by_cases h4:c<32
    ·rw[ak h4];exact BI (by decide)
    ·rw[ai h4]at ht ⊢;by_cases h5:c≠127
     ·rw[ak h5]at ht ⊢;exact Sw h c ht
     ·rw[ai h5]at ht;cases ht
theorem akA.Ok.char{x:akA}(h:x.Ok){c:Int}(h0:0≤c)(h1:c≤10000000):(x.char c).Ok:=by
 refine⟨h.r,h.m.take h0 h1,?_⟩;show(if(x.m.take c).2.2 then x.t.take (x.m.take c).2.1 else x.t).Inv;split
 ·exact h.t.take _
 ·exact h.t
theorem akA.Ok.chars{x:akA}(h:x.Ok):∀(l:List Int),(∀c∈l,0≤c∧c≤10000000)→(x.chars l).Ok:=by
 intro l;induction l generalizing x with
 |nil=>exact fun _=>h
 |cons c l ih=>exact fun hl=>ih (h.char (hl c (by simp)).1 (hl c (by simp)).2) (fun d hd=>hl d (by simp[hd]))
theorem akA.Ok.byte{x:akA}(h:x.Ok)(h0:0≤b)(h1:b<256):(x.byte b).Ok:=akA.Ok.chars (x:=⟨_,_,_⟩) ⟨h.r.take b,h.m,h.t⟩ _ (FJ h.r h0 h1)
theorem akA.Ok.feed{x:akA}(h:x.Ok):∀(l:List Int),(∀b∈l,0≤b∧b<256)→(x.feed l).Ok:=by
 intro l;induction l generalizing x with
 |nil=>exact fun _=>h
 |cons c l ih=>exact fun hl=>ih (h.byte (hl c (by simp)).1 (hl c (by simp)).2) (fun d hd=>hl d (by simp[hd]))
structure Cm (w:World) (fb:Nat) (L:Lay) (x:akA):Prop where
 rd:mM w fb 0 x.r
 ma:kS w fb 4 x.m
 pt:w.cell? ⟨fb,23,none⟩=some (.pointer (some ⟨L.tb,0,none⟩))
 te:cO w L x.t
 no:¬L.own fb
 hi:L.Hi
theorem Cm.kept{w w':World}{fb:Nat}{L:Lay}{x:akA}(h:Cm w fb L x){P:Nat→Prop}(c:Ch P w w')(hf:¬P fb)(hp:∀k,L.own k→¬P k):Cm w' fb L x:=by have hb:=c.block fb h.ma.lt hf;exact⟨h.rd.kept hb,h.ma.kept hb,(dA hb).trans h.pt,h.te.kept c hp,h.no,h.hi⟩
theorem Cm.reader{x:akA}(h:Cm w fb L x){v v':Value}(k:Kl v v' fb 0 w w'){r:RS}(hr:mM w' fb 0 r)(hv:∀i,L.own i→v.ownBlock≠some i):Cm w' fb L ⟨r,x.m,x.t⟩:=by
 refine⟨hr,⟨h.ma.len,fun j y hy=>(k.cell _ (Or.inr (by omega))).trans (h.ma.Cw j y hy),fun j hj=>(k.frozen _).trans (h.ma.fr j hj)⟩,(k.cell 23 (Or.inr (by omega))).trans h.pt,?_,h.no,h.hi⟩
 exact h.te.kept (P:=fun i=>i=fb∨v.ownBlock=some i) ⟨k.os,k.tape,k.output,k.size,fun i hi hn=>k.block i hi (fun e=>hn (.inl e)) (fun e=>hn (.inr e))⟩ (fun i hi hn=>by
  rcases hn with e|e
  ·exact h.no (e▸hi)
  ·exact hv i hi e)
theorem Cm.machine{x:akA}(h:Cm w fb L x)(k:Km fb 4 w w'){m:MS}(hm:kS w' fb 4 m):Cm w' fb L ⟨x.r,m,x.t⟩:=by refine⟨⟨(k.cell 0 (Or.inl (by omega))).trans h.rd.c0,(k.cell 1 (Or.inl (by omega))).trans h.rd.c1,(k.cell 2 (Or.inl (by omega))).trans h.rd.c2,(k.cell 3 (Or.inl (by omega))).trans h.rd.c3,fun j hj=>(k.frozen _).trans (h.rd.f j hj)⟩,hm,(k.cell 23 (Or.inr (by omega))).trans h.pt,?_,h.no,h.hi⟩;exact h.te.kept (P:=fun i=>i=fb) ⟨k.os,k.tape,k.output,k.size,fun i hi hn=>k.block i hi hn⟩ (fun i hi e=>h.no (e▸hi))
theorem Cm.lt{w:World}{fb:Nat}{L:Lay}{x:akA}(h:Cm w fb L x):fb<w.heap.size:=h.ma.lt
namespace TS
def OL (s:TS):Nat × Nat:=(s.rows,s.ah)
theorem JH(s:TS)(S:bS):(s.setCur S).OL=s.OL:=by unfold setCur;split<;>rfl
theorem EJ(s:TS)(n:Nat):(s.gQ n).OL=s.OL:=JH _ _
theorem Qh(s:TS):s.down.OL=s.OL:=by unfold down;split<;>first|exact EJ _ _|rfl
theorem EI(s:TS):s.bE.OL=s.OL:=Qh _
theorem Qi(s:TS):s.save.OL=s.OL:=by unfold save;split<;>rfl
theorem JG(s:TS):s.gH.OL=s.OL:=by unfold gH;split<;>first|exact EI _|rfl
end TS
def RS.Low (s:RS):Prop:=s.m≠0→128≤s.lo
theorem Ra{r:RS}(h:lead b=some r):r.Low:=by
 unfold lead at h
 repeat' split at h
 all_goals first|(cases h;done)|(cases h;intro _;dsimp only;omega)
theorem RS.Low.zero:RS.zero.Low:=fun h=>absurd rfl h
theorem RS.Low.uC{s:RS}(h:s.Low)(b:Int):(s.uC b).1.Low:=by
 unfold RS.uC;split
 ·exact h
 ·split
  ·rename_i r hr;exact Ra hr
  ·exact h
theorem RS.Low.take{s:RS}(h:s.Low)(b:Int):(s.take b).1.Low:=by
 unfold RS.take;split
 ·exact h.uC b
 ·split
  ·have hf:s.fin.1.Low:=by
    unfold RS.fin;split
    ·exact h
    ·exact RS.Low.zero
   exact hf.uC b
  ·unfold RS.join;split
   ·exact RS.Low.zero
   ·intro _;show(128:Int)≤128;omega
end Go.Proofs.YtheibfffilomcaaGreatDoor
