import Derived.Test.YtheibfffilomcabGreatDoorEvnU
import Derived.Test.YtheibfffilomcabGreatDoorTtU
set_option linter.all false
set_option maxRecDepth 100000
set_option maxHeartbeats 2000000
namespace Go.Proofs.YtheibfffilomcabGreatDoor
open Go.RowKit Go.Proofs.Tryz
variable {s:TS}
theorem BA(on:Bool):∀(l:List Int) (s:TS) (x:Int),s.sets on (l++[x])=(s.sets on l).set1 x on
 | [],_,_=>rfl
 |y::l,s,x=>by show(s.set1 y on).sets on (l++[x])=_;rw[BA on l];rfl
theorem TS.Inv.set1(h:s.Inv)(n:Int)(on:Bool):(s.set1 n on).Inv:=by
 unfold TS.set1;split
 ·exact TS.Inv.home (h.upd rfl rfl rfl rfl rfl rfl rfl h.row0 h.iT h.fU h.gz h.gN h.tb h.bot h.sh)
 ·split
  ·exact h.upd rfl rfl rfl rfl rfl rfl rfl h.row0 h.iT h.fU h.gz h.gN h.tb h.bot h.sh
  ·split
   ·exact h.upd rfl rfl rfl rfl rfl rfl rfl h.row0 h.iT h.fU h.gz h.gN h.tb h.bot (by show(if on then(1:Int)else 0)=0∨(if on then(1:Int)else 0)=1;cases on<;>simp)
   ·exact h
theorem TS.Inv.sets(on:Bool):∀(l:List Int),s.Inv→(s.sets on l).Inv:=by
 intro l;induction l generalizing s with
 |nil=>exact id
 |cons x l ih=>exact fun h=>ih (h.set1 x on)
theorem Kj(L:Lay)(s:TS)(w:World)(ht:a_ w L s)(hi:s.Inv)(on:Bool)(eb eo cap:Nat)(ns:List Int)(hns:ns.length≤16)(hc:∀j x,ns[j]? =some x→w.cell? ⟨eb,eo+j,none⟩=some (.int .i64 x))(hno:¬L.own eb)(hlt:eb<w.heap.size):
 Calls prog 137 #[.pointer (some ⟨L.tb,0,none⟩),.slice (some ⟨eb,eo,none⟩) ns.length cap,.bool on] w fun e w'=>e= .returned (.tuple #[])∧a_ w' L (s.sets on ns)∧Ch L.own w w':=by
 have HT:Hid _:=ht;have HI:Hid s.Inv:=hi;have HC:Hid _:=hc;clear ht hi hc;go_enter func137,ntmps137;go_wp2_with fail;go_loopw [10] (fun i wr=>∃k:Nat,k≤ns.length∧i= .int .i64 k∧a_ wr L (s.sets on (ns.take k))∧Ch L.own w wr) (fun i _=>ns.length-(intOf i).toNat)
 case atStart=>exact⟨0,jy _,rfl,HT.o,Ch.refl _ _⟩
 case round=>
  clear HT;obtain⟨k,hk,rfl,R,C⟩:=hrel;by_cases hlt2:k<ns.length
  ·have ik:(k:Int)<(ns.length:Int):=by omega
   obtain⟨x,hx⟩:∃x,ns[k]? =some x:=⟨_,gK hlt2⟩;have hcell:wr.cell? ⟨eb,eo+k,none⟩=some (.int .i64 x):=(eT (C.block eb hlt hno)).trans (HC.o k x hx);have hts:s.sets on (ns.take (k+1))=(s.sets on (ns.take k)).set1 x on:=by obtain⟨h1,h2⟩:=ja.1 hx;rw[yh h1,h2,BA]
   have Qw:Hid (s.sets on (ns.take k)).Inv:=TS.Inv.sets on _ HI.o;have NB:Hid _:=hts;generalize s.sets on (ns.take k)=t at*;have d28:=R.c 28 _ rfl;have d37:=R.c 37 _ rfl;have d40:=R.c 40 _ rfl;have d42:=R.c 42 _ rfl;have g28:=R.f 28;have g37:=R.f 37;have g40:=R.f 40;have g42:=R.f 42;have HR:Hid _:=R;have oz:Hid _:=C;clear R C hts hx;have vk:IntKind.i64.wrap ((k:Int)+1)=(k:Int)+1:=bV _ (by omega);rcases(show x=6∨x=7∨x=47∨¬(x=6∨x=7∨x=47) by omega)with rfl|rfl|rfl|hx
   ·have l1:=EB L {t with origin:=on} _ (HR.o.set (s':={t with origin:=on}) 37 (.bool on) rfl rfl rfl rfl rfl) (Qw.o.upd rfl rfl rfl rfl rfl rfl rfl Qw.o.row0 Qw.o.iT Qw.o.fU Qw.o.gz Qw.o.gN Qw.o.tb Qw.o.bot Qw.o.sh);go_wp2_with (go_at_call 192;refine l1.mono ?_;rintro e w1 ⟨rfl,h1,c1⟩);go_roundw
    case rel=>exact⟨k+1,by omega,by go_num,by rw[NB.o];exact h1,oz.o.trans (((Ch.refl _ _).jI _ _).trans c1)⟩
    case measure=>simp[intOf];omega
   ·cases hw:t.waits with
    |true=>
     rw[hw]at d28;go_wp2_with fail;go_roundw
     case rel=>exact⟨k+1,by omega,by go_num,by rw[NB.o,show t.set1 7 on= {t with wrap:=on,waits:=t.waits&&on} from rfl,hw,Bool.true_and];exact(HR.o.set (s':={t with wrap:=on}) 40 (.bool on) rfl rfl rfl rfl rfl).set 28 (.bool on) rfl rfl rfl rfl rfl,oz.o.trans (((Ch.refl _ _).jI _ _).jI _ _)⟩
     case measure=>simp[intOf];omega
    |false=>
     rw[hw]at d28;go_wp2_with fail;go_roundw
     case rel=>exact⟨k+1,by omega,by go_num,by rw[NB.o,show t.set1 7 on= {t with wrap:=on,waits:=t.waits&&on} from rfl,hw,Bool.false_and];exact(HR.o.set (s':={t with wrap:=on}) 40 (.bool on) rfl rfl rfl rfl rfl).set 28 (.bool false) rfl rfl rfl rfl rfl,oz.o.trans (((Ch.refl _ _).jI _ _).jI _ _)⟩
     case measure=>simp[intOf];omega
   ·cases on with
    |true=>
     go_wp2_with fail;go_roundw
     case rel=>exact⟨k+1,by omega,by go_num,by rw[NB.o,show t.set1 47 true= {t with shown:=1} from rfl];exact(HR.o.set (s':={t with shown:=0}) 42 (.int .i64 0) rfl rfl rfl rfl rfl).set 42 (.int .i64 1) rfl rfl rfl rfl rfl,oz.o.trans (((Ch.refl _ _).jI _ _).jI _ _)⟩
     case measure=>simp[intOf];omega
    |false=>
     go_wp2_with fail;go_roundw
     case rel=>exact⟨k+1,by omega,by go_num,by rw[NB.o,show t.set1 47 false= {t with shown:=0} from rfl];exact HR.o.set (s':={t with shown:=0}) 42 (.int .i64 0) rfl rfl rfl rfl rfl,oz.o.trans ((Ch.refl _ _).jI _ _)⟩
     case measure=>simp[intOf];omega
   ·have e:t.set1 x on=t:=by unfold TS.set1;simp only[aG (show¬x=6 by omega),aG (show¬x=7 by omega),aG (show¬x=47 by omega)]
    have b1:(x==6)=false:=by simp;omega
    have b2:(x==7)=false:=by simp;omega
    have b3:(x==47)=false:=by simp;omega
    have HE:Hid _:=e;clear e hx;go_wp2_with fail;go_roundw
    case rel=>exact⟨k+1,by omega,by go_num,by rw[NB.o,HE.o];exact HR.o,oz.o⟩
    case measure=>simp[intOf];omega
  ·have hkn:k=ns.length:=by omega
   subst hkn;rw[List.take_length]at R;have HR:Hid _:=R;have oz:Hid _:=C;clear R C;go_wp2_with fail;go_end0;exact⟨rfl,HR.o,oz.o⟩
theorem zN:∀(l:List Int) (s:TS) (x:Int),s.turns (l++[x])=({(s.turns l)with pen:=TS.turn (s.turns l).pen (TS.amount x)}:TS)
 | [],_,_=>rfl
 |y::l,s,x=>by show({s with pen:=TS.turn s.pen (TS.amount y)}:TS).turns (l++[x])=_;rw[zN l];rfl
theorem TS.Inv.turns:∀(l:List Int),s.Inv→(s.turns l).Inv:=by
 intro l;induction l generalizing s with
 |nil=>exact id
 |cons x l ih=>exact fun h=>ih (h.upd rfl rfl rfl rfl rfl rfl rfl h.row0 h.iT h.fU h.gz h.gN h.tb h.bot h.sh)
theorem EY(p:fO):∀v∈iR p,v.oneCell'=true:=by intro v hv;simp only[iR,di,eU,eX]at hv;rcases hv with rfl|rfl|rfl|rfl|rfl<;>rfl
theorem zR{o:Oper}{l:List Value}{ds:List Deferred}{u:World}{K:Act→World→Prop}{Q:Exit→Act→World→Prop}(d:Nat)(x:Operand)(ho:o.op= .load 102 x)(hd:o.dst=some d)(b j:Nat)(p:fO)(hx:Act.eval ⟨l.toArray,ds⟩ x= .pointer (some ⟨b,j,none⟩))(hc:u.rangeAt b j (iR p))(h:K ⟨(l.set d (.agg (gI p))).toArray,ds⟩ u):Oper.wp prog o ⟨l.toArray,ds⟩ u K Q:=by
 refine wp_load_mid 102 x ho b j hx (iR p) _ hc underlying102 rfl iP ?_;rw[hd];simpa[Act.put,gI]using h
theorem GK(L:Lay)(s:TS)(w:World)(ht:a_ w L s)(hi:s.Inv)(ev:List Int)(hev:ev.length=21)(ct:Nat)(hct:ev.getD 4 0=(ct:Int))(Y1:ct≤16)(hps:∀x∈ev.drop 5,-1≤x∧x≤65535):
 Calls prog 136 #[.pointer (some ⟨L.tb,0,none⟩),.agg (aO ev)] w fun e w'=>e= .returned (.tuple #[])∧a_ w' L (s.jo (ev.getD 3 0) (ev.drop 5) ct)∧Ch L.own w w':=by
 have HTW:Hid _:=ht;have HT0:=ht.sm ((Ch.refl (fun _=>False) w).alloc (.cells (aO ev) 92));have BZ:Hid ((w.alloc (.cells (aO ev) 92)).heap[w.heap.size]? =some (.cells (aO ev) 92 (0,0))):=bJ _ _;have e3:=gT (j:=3) BZ.o (by omega);have e4:=gT (j:=4) BZ.o (by omega);have e5:=gT (j:=5) BZ.o (by omega);have e6:=gT (j:=6) BZ.o (by omega);have g0:(ev.drop 5).getD 0 0=ev.getD 5 0:=by simp[List.getD]
 have g1:(ev.drop 5).getD 1 0=ev.getD 6 0:=by simp[List.getD]
 have hb5: -1≤ev.getD 5 0∧ev.getD 5 0≤65535:=by rw[←g0];refine hps _ ?_;simp[List.getD,gK (show 5<ev.length by omega)];exact List.mem_iff_getElem.2 ⟨0,by simp;omega,by simp⟩
 have hb6: -1≤ev.getD 6 0∧ev.getD 6 0≤65535:=by rw[←g1];refine hps _ ?_;simp[List.getD,gK (show 6<ev.length by omega)];exact List.mem_iff_getElem.2 ⟨1,by simp;omega,by simp⟩
 rw[hct]at e4;have jA:Hid (Ch L.own w (w.alloc (.cells (aO ev) 92))):=(Ch.refl _ _).alloc _;have AQ:Hid (¬L.own w.heap.size):=fun h=>by have:=ht.jv h;omega
 have DC:Hid (w.heap.size<(w.alloc (.cells (aO ev) 92)).heap.size):=by show _<_;simp
 have hlt:=ht.lt;have hX:s.jo (ev.getD 3 0) (ev.drop 5) ct=if ev.getD 3 0=114 then s.fH (TS.times (ev.getD 5 0)-1) (TS.amount (ev.getD 6 0)-1)else if ev.getD 3 0=103 then s.eD (TS.amount (ev.getD 5 0))else if ev.getD 3 0=109 then s.turns ((ev.drop 5).take ct)
  else if ev.getD 3 0=104∨ev.getD 3 0=108 then(if ev.getD 5 0=4 then{s with insert:=decide (ev.getD 3 0=104)} else s)else s:=by unfold TS.jo;rw[g0,g1]
 generalize s.jo (ev.getD 3 0) (ev.drop 5) ct=X at*;generalize ev.getD 3 0=f at*;generalize ev.getD 5 0=p0 at*;generalize ev.getD 6 0=p1 at*;have HI:Hid s.Inv:=hi;have HT:Hid _:=HT0;have ht0:1≤TS.times p0∧TS.times p0≤65535:=by unfold TS.times;omega
 have ha1:0≤TS.amount p1∧TS.amount p1≤65535:=by unfold TS.amount;omega
 clear ht hi HT0 g0 g1;rcases(show f=114∨f=103∨f=109∨f=104∨f=108∨¬(f=114∨f=103∨f=109∨f=104∨f=108) by omega)with rfl|rfl|rfl|rfl|rfl|hf
 ·have HX:Hid _:=hX;have v1:IntKind.i64.wrap (TS.times p0-1)=TS.times p0-1:=bV _ (by omega);have v2:IntKind.i64.wrap (TS.amount p1-1)=TS.amount p1-1:=bV _ (by omega);clear hX;go_enter func136,ntmps136;go_wp2_with fail;generalize hW:w.alloc (Obj.cells (aO ev) 92)=W at*;generalize hlb:w.heap.size=lb at*;have HT1:a_ ({W with drawn:=W.drawn+1}:World) L s:=HT.o.sm ((Ch.refl _ _).drewN 1);have HH:World.cell? ({W with drawn:=W.drawn+1}:World) ⟨lb,5,none⟩=some (.int .i64 p0)∧World.cell? ({W with drawn:=W.drawn+1}:World) ⟨lb,6,none⟩=some (.int .i64 p1):=⟨e5,e6⟩;refine fJ (S:=fun x=>x.cell? ⟨lb,5,none⟩=some (.int .i64 p0)∧x.cell? ⟨lb,6,none⟩=some (.int .i64 p1)) bI ?_;refine g_ 0 1 HH ?_;refine ak 2 HH ?_ (v:=.pointer (some ⟨lb,5,none⟩));refine ak 3 HH ?_;simp only[ah,ag];refine ak 6 HH ?_;refine ak 7 HH ?_ (v:=.pointer (some ⟨lb,6,none⟩));refine ak 8 HH ?_;simp only[ah,ag];refine aD 4 ?_;refine d_ (vs:=[.int .i64 p0]) (dY _ _) ?_;rintro v2 w9 ⟨rfl,rfl⟩;refine⟨HH,?_⟩;simp only[ah,ag];refine ak 5 HH ?_ (v:=.int .i64 (TS.times p0-1));simp only[ah,ag];refine aD 9 ?_;refine d_ (vs:=[.int .i64 p1]) (dw _ _) ?_;rintro v2 w9 ⟨rfl,rfl⟩;refine⟨HH,?_⟩;simp only[ah,ag];refine ak 10 HH ?_ (v:=.int .i64 (TS.amount p1-1));simp only[ah,ag];refine aD 11 ?_;refine bR (vs:=[.pointer (some ⟨L.tb,0,none⟩),.int .i64 (TS.times p0-1),.int .i64 (TS.amount p1-1)]) (R:=fun v w'=>v= .tuple #[]∧a_ w' L X∧Ch L.own W w') ((Ae L s _ HT1 HI.o (TS.times p0-1) (TS.amount p1-1) (by omega)).mono fun e w' h=>⟨_,h.1,rfl,by rw[HX.o];exact h.2.1,⟨h.2.2.os,h.2.2.tape,h.2.2.output,h.2.2.size,h.2.2.block⟩⟩) ?_;rintro v2 w9 ⟨rfl,t9,c9⟩;refine⟨⟨(eT (c9.block lb DC.o AQ.o)).trans e5,(eT (c9.block lb DC.o AQ.o)).trans e6⟩,?_⟩;simp only[ah,ag];refine aM ?_;have HF:Hid (a_ w9 L X∧Ch L.own w w9):=⟨t9,jA.o.trans c9⟩;clear t9 c9 HT1 HH;go_wp2_with fail;go_end0;exact⟨rfl,HF.o.1,HF.o.2⟩
 ·have HX:Hid _:=hX;clear hX;have l1:=zW L s _ HT.o HI.o (TS.amount p0);go_enter func136,ntmps136;go_wp2_with (first|(go_at_call 181;refine(dw p0 _).mono ?_;rintro e w1 ⟨rfl,hw1⟩;have hw2:=hw1.symm;subst hw2)|(go_at_call 190;refine l1.mono ?_;rintro e w2 ⟨rfl,h2,c2⟩));go_end0;exact⟨rfl,by rw[HX.o];exact h2,jA.o.trans c2⟩
 ·have HX:Hid _:=hX;clear hX;have i1:(ct:Int)≤16:=by omega
  have hlen:((ev.drop 5).take ct).length=ct:=by rw[jJ,wR];omega
  have hcs:∀j x,((ev.drop 5).take ct)[j]? =some x→(w.alloc (.cells (aO ev) 92)).cell? ⟨w.heap.size,5+j,none⟩=some (.int .i64 x):=fun j x hx=>by
   rw[qA]at hx;split at hx
   ·rw[qC]at hx;have:=gT (j:=5+j) BZ.o (ja.1 hx).1;rw[this];simp[List.getD,hx]
   ·cases hx
  have hbs:∀x∈(ev.drop 5).take ct,0≤TS.amount x∧TS.amount x≤70000:=fun x hx=>by have:=hps x (DL hx);unfold TS.amount;omega
  generalize (ev.drop 5).take ct=ns at*;have HCS:Hid _:=hcs;have HBS:Hid _:=hbs;clear hcs hbs hps;go_enter func136,ntmps136;go_wp2_with fail;generalize hW:w.alloc (Obj.cells (aO ev) 92)=W at*;generalize hlb:w.heap.size=lb at*;go_loopw [37] (fun i wr=>∃k:Nat,k≤ct∧i= .int .i64 k∧a_ wr L (s.turns (ns.take k))∧Ch L.own W wr) (fun i _=>ct-(intOf i).toNat)
  case atStart=>exact⟨0,jy _,rfl,HT.o,Ch.refl _ _⟩
  case round=>
   obtain⟨k,hk,rfl,R,C⟩:=hrel;by_cases hlt2:k<ct
   ·have ik:(k:Int)<(ct:Int):=by omega
    obtain⟨x,hx⟩:∃x,ns[k]? =some x:=⟨_,gK (by omega)⟩;have hcell:wr.cell? ⟨lb,5+k,none⟩=some (.int .i64 x):=(eT (C.block lb DC.o AQ.o)).trans (HCS.o k x hx);have hxa:=HBS.o x (fu hx);have hts:s.turns (ns.take (k+1))=({(s.turns (ns.take k))with pen:=TS.turn (s.turns (ns.take k)).pen (TS.amount x)}:TS):=by obtain⟨h1,h2⟩:=ja.1 hx;rw[yh h1,h2,zN]
    have NB:Hid _:=hts;generalize s.turns (ns.take k)=t at*;have HR:Hid _:=R;have oz:Hid _:=C;clear R C hts hx;have vk:IntKind.i64.wrap ((k:Int)+1)=(k:Int)+1:=bV _ (by omega);go_wp2_with fail;have RG:World.rangeAt ({wr with drawn:=wr.drawn+1}:World) L.tb 29 (iR t.pen):=(HR.o.sm ((Ch.refl _ _).drewN 1)).range' 29 _ rfl;refine fJ (S:=fun _=>True) bI ?_;refine aL 0 1 2 3 trivial ?_;simp only[ah,ag];refine iC 4 5 7 trivial ?_;simp only[ah,ag];refine Ox 6 8 ?_ ?_
    ·refine gW ?_;refine zR 47 (.tmp 46) rfl rfl L.tb 29 t.pen rfl (RG) ?_;refine⟨trivial,?_⟩;simp only[ah,ag];refine aD 8 ?_;refine d_ (vs:=[.int .i64 x]) (dw _ _) ?_;rintro v2 w9 ⟨rfl,rfl⟩;refine⟨trivial,?_⟩;simp only[ah,ag];refine aD 9 ?_;refine bR (vs:=[.agg (gI t.pen),.int .i64 (TS.amount x)]) (R:=fun v w'=>v= .agg (gI (TS.turn t.pen (TS.amount x)))∧Sm wr w') ((F_ t.pen (TS.amount x) _ hxa).mono fun e w' h=>⟨_,h.1,rfl,⟨h.2.os,h.2.tape,h.2.output,h.2.size,fun k hk _=>h.2.block k hk⟩⟩) ?_;rintro v2 w8 ⟨rfl,VF⟩;refine⟨trivial,?_⟩;simp only[ah,ag];refine aL 10 11 12 13 trivial ?_;simp only[ah,ag];refine aD 14 ?_;refine nk 102 (.tmp 54) (.tmp 50) rfl rfl L t {t with pen:=TS.turn t.pen (TS.amount x)} 29 (iR (TS.turn t.pen (TS.amount x))) iP rfl rfl (EY _) (HR.o.sm VF) (by show 29+5≤44;omega) rfl rfl rfl rfl rfl ?_;intro u7 t7 c7 _;refine⟨trivial,?_⟩;refine aM ?_;have HF:Hid (a_ u7 L {t with pen:=TS.turn t.pen (TS.amount x)}∧Ch L.own W u7):=⟨t7,oz.o.trans ((Sm.ch VF).trans c7)⟩;clear t7 c7 VF HR oz;go_wp2_with fail;go_roundw
     case rel=>exact⟨k+1,by omega,by go_num,by rw[NB.o];exact HF.o.1,HF.o.2⟩
     case measure=>simp[intOf];omega
    ·refine gW ?_;refine d_ (vs:=[.int .i64 x]) (dw _ _) ?_;rintro v2 w9 ⟨rfl,rfl⟩;refine⟨trivial,?_⟩;simp only[ah,ag];refine aD 6 ?_;refine zR 47 (.tmp 46) rfl rfl L.tb 29 t.pen rfl (RG) ?_;refine⟨trivial,?_⟩;simp only[ah,ag];refine aD 9 ?_;refine bR (vs:=[.agg (gI t.pen),.int .i64 (TS.amount x)]) (R:=fun v w'=>v= .agg (gI (TS.turn t.pen (TS.amount x)))∧Sm wr w') ((F_ t.pen (TS.amount x) _ hxa).mono fun e w' h=>⟨_,h.1,rfl,⟨h.2.os,h.2.tape,h.2.output,h.2.size,fun k hk _=>h.2.block k hk⟩⟩) ?_;rintro v2 w8 ⟨rfl,VF⟩;refine⟨trivial,?_⟩;simp only[ah,ag];refine aL 10 11 12 13 trivial ?_;simp only[ah,ag];refine aD 14 ?_;refine nk 102 (.tmp 54) (.tmp 50) rfl rfl L t {t with pen:=TS.turn t.pen (TS.amount x)} 29 (iR (TS.turn t.pen (TS.amount x))) iP rfl rfl (EY _) (HR.o.sm VF) (by show 29+5≤44;omega) rfl rfl rfl rfl rfl ?_;intro u7 t7 c7 _;refine⟨trivial,?_⟩;refine aM ?_;have HF:Hid (a_ u7 L {t with pen:=TS.turn t.pen (TS.amount x)}∧Ch L.own W u7):=⟨t7,oz.o.trans ((Sm.ch VF).trans c7)⟩;clear t7 c7 VF HR oz;go_wp2_with fail;go_roundw
     case rel=>exact⟨k+1,by omega,by go_num,by rw[NB.o];exact HF.o.1,HF.o.2⟩
     case measure=>simp[intOf];omega
   ·have hkn:k=ct:=by omega
    have hnt:ns.take k=ns:=sG (by omega);rw[hnt]at R;subst hkn;have HR:Hid _:=R;have oz:Hid (Ch L.own w wr):=jA.o.trans C;clear R C;go_wp2_with fail;go_end0;exact⟨rfl,by rw[HX.o];exact HR.o,oz.o⟩
 ·have HX:Hid (X=if p0=4 then{s with insert:=true} else s):=by show X=_;rw[hX];rfl
  have d41:=HT.o.c 41 _ rfl;have g41:=HT.o.f 41;clear hX;by_cases hp:p0=4
  ·rw[aS hp]at HX;have bp:(p0==4)=true:=by simp[hp]
   clear hp;go_enter func136,ntmps136;go_wp2_with fail;go_end0;exact⟨rfl,by rw[HX.o];exact(HTW.o.set (s':={s with insert:=true}) 41 (.bool true) rfl rfl rfl rfl rfl).sm ((Ch.refl _ _).alloc _),((Ch.refl _ _).jI _ _).alloc _⟩
  ·rw[aG hp]at HX;have bp:(p0==4)=false:=by simp[hp]
   clear hp;go_enter func136,ntmps136;go_wp2_with fail;go_end0;exact⟨rfl,by rw[HX.o];exact HT.o,jA.o⟩
 ·have HX:Hid (X=if p0=4 then{s with insert:=false} else s):=by show X=_;rw[hX];rfl
  have d41:=HT.o.c 41 _ rfl;have g41:=HT.o.f 41;clear hX;by_cases hp:p0=4
  ·rw[aS hp]at HX;have bp:(p0==4)=true:=by simp[hp]
   clear hp;go_enter func136,ntmps136;go_wp2_with fail;go_end0;exact⟨rfl,by rw[HX.o];exact(HTW.o.set (s':={s with insert:=false}) 41 (.bool false) rfl rfl rfl rfl rfl).sm ((Ch.refl _ _).alloc _),((Ch.refl _ _).jI _ _).alloc _⟩
  ·rw[aG hp]at HX;have bp:(p0==4)=false:=by simp[hp]
   clear hp;go_enter func136,ntmps136;go_wp2_with fail;go_end0;exact⟨rfl,by rw[HX.o];exact HT.o,jA.o⟩
 ·rw[aG (by omega),aG (by omega),aG (by omega),aG (by omega)]at hX;have HX:Hid _:=hX;have b1:(f==114)=false:=by simp;omega
  have b2:(f==103)=false:=by simp;omega
  have b3:(f==109)=false:=by simp;omega
  have b4:(f==104)=false:=by simp;omega
  have b5:(f==108)=false:=by simp;omega
  clear hX hf;go_enter func136,ntmps136;go_wp2_with fail;go_end0;exact⟨rfl,by rw[HX.o];exact HT.o,jA.o⟩
def dh (c:Int):Int:=if c=65 then 0 else if c=66 then 1 else if c=67 then 2 else if c=68 then 3 else if c=71 then 4 else if c=100 then 5 else if c=72 then 6 else if c=102 then 7 else if c=64 then 8 else if c=80 then 9 else if c=88 then 10 else if c=76 then 11 else if c=77 then 12 else-1
theorem X9(w:World):(callFunc 228 #[.string ⟨#[65,66,67,68,71,100,72,102,64,80,88,76,77]⟩,.int .u8 64]).run prog w= .ok (.value (.int .i64 (dh 64))) w:=by kernel_rfl
theorem X_(w:World):(callFunc 228 #[.string ⟨#[65,66,67,68,71,100,72,102,64,80,88,76,77]⟩,.int .u8 65]).run prog w= .ok (.value (.int .i64 (dh 65))) w:=by kernel_rfl
theorem Ya(w:World):(callFunc 228 #[.string ⟨#[65,66,67,68,71,100,72,102,64,80,88,76,77]⟩,.int .u8 66]).run prog w= .ok (.value (.int .i64 (dh 66))) w:=by kernel_rfl
theorem Yb(w:World):(callFunc 228 #[.string ⟨#[65,66,67,68,71,100,72,102,64,80,88,76,77]⟩,.int .u8 67]).run prog w= .ok (.value (.int .i64 (dh 67))) w:=by kernel_rfl
theorem Yc(w:World):(callFunc 228 #[.string ⟨#[65,66,67,68,71,100,72,102,64,80,88,76,77]⟩,.int .u8 68]).run prog w= .ok (.value (.int .i64 (dh 68))) w:=by kernel_rfl
theorem Yd(w:World):(callFunc 228 #[.string ⟨#[65,66,67,68,71,100,72,102,64,80,88,76,77]⟩,.int .u8 69]).run prog w= .ok (.value (.int .i64 (dh 69))) w:=by kernel_rfl
theorem Ye(w:World):(callFunc 228 #[.string ⟨#[65,66,67,68,71,100,72,102,64,80,88,76,77]⟩,.int .u8 70]).run prog w= .ok (.value (.int .i64 (dh 70))) w:=by kernel_rfl
theorem Yf(w:World):(callFunc 228 #[.string ⟨#[65,66,67,68,71,100,72,102,64,80,88,76,77]⟩,.int .u8 71]).run prog w= .ok (.value (.int .i64 (dh 71))) w:=by kernel_rfl
theorem Yg(w:World):(callFunc 228 #[.string ⟨#[65,66,67,68,71,100,72,102,64,80,88,76,77]⟩,.int .u8 72]).run prog w= .ok (.value (.int .i64 (dh 72))) w:=by kernel_rfl
theorem Yh(w:World):(callFunc 228 #[.string ⟨#[65,66,67,68,71,100,72,102,64,80,88,76,77]⟩,.int .u8 73]).run prog w= .ok (.value (.int .i64 (dh 73))) w:=by kernel_rfl
theorem Yi(w:World):(callFunc 228 #[.string ⟨#[65,66,67,68,71,100,72,102,64,80,88,76,77]⟩,.int .u8 74]).run prog w= .ok (.value (.int .i64 (dh 74))) w:=by kernel_rfl
theorem Yj(w:World):(callFunc 228 #[.string ⟨#[65,66,67,68,71,100,72,102,64,80,88,76,77]⟩,.int .u8 75]).run prog w= .ok (.value (.int .i64 (dh 75))) w:=by kernel_rfl
theorem Yk(w:World):(callFunc 228 #[.string ⟨#[65,66,67,68,71,100,72,102,64,80,88,76,77]⟩,.int .u8 76]).run prog w= .ok (.value (.int .i64 (dh 76))) w:=by kernel_rfl
theorem Yl(w:World):(callFunc 228 #[.string ⟨#[65,66,67,68,71,100,72,102,64,80,88,76,77]⟩,.int .u8 77]).run prog w= .ok (.value (.int .i64 (dh 77))) w:=by kernel_rfl
theorem Ym(w:World):(callFunc 228 #[.string ⟨#[65,66,67,68,71,100,72,102,64,80,88,76,77]⟩,.int .u8 78]).run prog w= .ok (.value (.int .i64 (dh 78))) w:=by kernel_rfl
theorem Yn(w:World):(callFunc 228 #[.string ⟨#[65,66,67,68,71,100,72,102,64,80,88,76,77]⟩,.int .u8 79]).run prog w= .ok (.value (.int .i64 (dh 79))) w:=by kernel_rfl
theorem Yo(w:World):(callFunc 228 #[.string ⟨#[65,66,67,68,71,100,72,102,64,80,88,76,77]⟩,.int .u8 80]).run prog w= .ok (.value (.int .i64 (dh 80))) w:=by kernel_rfl
theorem Yp(w:World):(callFunc 228 #[.string ⟨#[65,66,67,68,71,100,72,102,64,80,88,76,77]⟩,.int .u8 81]).run prog w= .ok (.value (.int .i64 (dh 81))) w:=by kernel_rfl
theorem Yq(w:World):(callFunc 228 #[.string ⟨#[65,66,67,68,71,100,72,102,64,80,88,76,77]⟩,.int .u8 82]).run prog w= .ok (.value (.int .i64 (dh 82))) w:=by kernel_rfl
theorem Yr(w:World):(callFunc 228 #[.string ⟨#[65,66,67,68,71,100,72,102,64,80,88,76,77]⟩,.int .u8 83]).run prog w= .ok (.value (.int .i64 (dh 83))) w:=by kernel_rfl
theorem Yt(w:World):(callFunc 228 #[.string ⟨#[65,66,67,68,71,100,72,102,64,80,88,76,77]⟩,.int .u8 84]).run prog w= .ok (.value (.int .i64 (dh 84))) w:=by kernel_rfl
theorem Yu(w:World):(callFunc 228 #[.string ⟨#[65,66,67,68,71,100,72,102,64,80,88,76,77]⟩,.int .u8 85]).run prog w= .ok (.value (.int .i64 (dh 85))) w:=by kernel_rfl
theorem Yv(w:World):(callFunc 228 #[.string ⟨#[65,66,67,68,71,100,72,102,64,80,88,76,77]⟩,.int .u8 86]).run prog w= .ok (.value (.int .i64 (dh 86))) w:=by kernel_rfl
theorem Yw(w:World):(callFunc 228 #[.string ⟨#[65,66,67,68,71,100,72,102,64,80,88,76,77]⟩,.int .u8 87]).run prog w= .ok (.value (.int .i64 (dh 87))) w:=by kernel_rfl
theorem Yx(w:World):(callFunc 228 #[.string ⟨#[65,66,67,68,71,100,72,102,64,80,88,76,77]⟩,.int .u8 88]).run prog w= .ok (.value (.int .i64 (dh 88))) w:=by kernel_rfl
theorem Yy(w:World):(callFunc 228 #[.string ⟨#[65,66,67,68,71,100,72,102,64,80,88,76,77]⟩,.int .u8 89]).run prog w= .ok (.value (.int .i64 (dh 89))) w:=by kernel_rfl
theorem Yz(w:World):(callFunc 228 #[.string ⟨#[65,66,67,68,71,100,72,102,64,80,88,76,77]⟩,.int .u8 90]).run prog w= .ok (.value (.int .i64 (dh 90))) w:=by kernel_rfl
theorem YA(w:World):(callFunc 228 #[.string ⟨#[65,66,67,68,71,100,72,102,64,80,88,76,77]⟩,.int .u8 91]).run prog w= .ok (.value (.int .i64 (dh 91))) w:=by kernel_rfl
theorem YB(w:World):(callFunc 228 #[.string ⟨#[65,66,67,68,71,100,72,102,64,80,88,76,77]⟩,.int .u8 92]).run prog w= .ok (.value (.int .i64 (dh 92))) w:=by kernel_rfl
theorem YC(w:World):(callFunc 228 #[.string ⟨#[65,66,67,68,71,100,72,102,64,80,88,76,77]⟩,.int .u8 93]).run prog w= .ok (.value (.int .i64 (dh 93))) w:=by kernel_rfl
theorem YD(w:World):(callFunc 228 #[.string ⟨#[65,66,67,68,71,100,72,102,64,80,88,76,77]⟩,.int .u8 94]).run prog w= .ok (.value (.int .i64 (dh 94))) w:=by kernel_rfl
theorem YE(w:World):(callFunc 228 #[.string ⟨#[65,66,67,68,71,100,72,102,64,80,88,76,77]⟩,.int .u8 95]).run prog w= .ok (.value (.int .i64 (dh 95))) w:=by kernel_rfl
theorem YF(w:World):(callFunc 228 #[.string ⟨#[65,66,67,68,71,100,72,102,64,80,88,76,77]⟩,.int .u8 96]).run prog w= .ok (.value (.int .i64 (dh 96))) w:=by kernel_rfl
theorem YG(w:World):(callFunc 228 #[.string ⟨#[65,66,67,68,71,100,72,102,64,80,88,76,77]⟩,.int .u8 97]).run prog w= .ok (.value (.int .i64 (dh 97))) w:=by kernel_rfl
theorem YH(w:World):(callFunc 228 #[.string ⟨#[65,66,67,68,71,100,72,102,64,80,88,76,77]⟩,.int .u8 98]).run prog w= .ok (.value (.int .i64 (dh 98))) w:=by kernel_rfl
theorem YI(w:World):(callFunc 228 #[.string ⟨#[65,66,67,68,71,100,72,102,64,80,88,76,77]⟩,.int .u8 99]).run prog w= .ok (.value (.int .i64 (dh 99))) w:=by kernel_rfl
theorem Ue(w:World):(callFunc 228 #[.string ⟨#[65,66,67,68,71,100,72,102,64,80,88,76,77]⟩,.int .u8 100]).run prog w= .ok (.value (.int .i64 (dh 100))) w:=by kernel_rfl
theorem Uf(w:World):(callFunc 228 #[.string ⟨#[65,66,67,68,71,100,72,102,64,80,88,76,77]⟩,.int .u8 101]).run prog w= .ok (.value (.int .i64 (dh 101))) w:=by kernel_rfl
theorem Ug(w:World):(callFunc 228 #[.string ⟨#[65,66,67,68,71,100,72,102,64,80,88,76,77]⟩,.int .u8 102]).run prog w= .ok (.value (.int .i64 (dh 102))) w:=by kernel_rfl
theorem Uh(w:World):(callFunc 228 #[.string ⟨#[65,66,67,68,71,100,72,102,64,80,88,76,77]⟩,.int .u8 103]).run prog w= .ok (.value (.int .i64 (dh 103))) w:=by kernel_rfl
theorem Ui(w:World):(callFunc 228 #[.string ⟨#[65,66,67,68,71,100,72,102,64,80,88,76,77]⟩,.int .u8 104]).run prog w= .ok (.value (.int .i64 (dh 104))) w:=by kernel_rfl
theorem Uj(w:World):(callFunc 228 #[.string ⟨#[65,66,67,68,71,100,72,102,64,80,88,76,77]⟩,.int .u8 105]).run prog w= .ok (.value (.int .i64 (dh 105))) w:=by kernel_rfl
theorem Uk(w:World):(callFunc 228 #[.string ⟨#[65,66,67,68,71,100,72,102,64,80,88,76,77]⟩,.int .u8 106]).run prog w= .ok (.value (.int .i64 (dh 106))) w:=by kernel_rfl
theorem Ul(w:World):(callFunc 228 #[.string ⟨#[65,66,67,68,71,100,72,102,64,80,88,76,77]⟩,.int .u8 107]).run prog w= .ok (.value (.int .i64 (dh 107))) w:=by kernel_rfl
theorem Um(w:World):(callFunc 228 #[.string ⟨#[65,66,67,68,71,100,72,102,64,80,88,76,77]⟩,.int .u8 108]).run prog w= .ok (.value (.int .i64 (dh 108))) w:=by kernel_rfl
theorem Un(w:World):(callFunc 228 #[.string ⟨#[65,66,67,68,71,100,72,102,64,80,88,76,77]⟩,.int .u8 109]).run prog w= .ok (.value (.int .i64 (dh 109))) w:=by kernel_rfl
theorem Uo(w:World):(callFunc 228 #[.string ⟨#[65,66,67,68,71,100,72,102,64,80,88,76,77]⟩,.int .u8 110]).run prog w= .ok (.value (.int .i64 (dh 110))) w:=by kernel_rfl
theorem Uq(w:World):(callFunc 228 #[.string ⟨#[65,66,67,68,71,100,72,102,64,80,88,76,77]⟩,.int .u8 111]).run prog w= .ok (.value (.int .i64 (dh 111))) w:=by kernel_rfl
theorem Ur(w:World):(callFunc 228 #[.string ⟨#[65,66,67,68,71,100,72,102,64,80,88,76,77]⟩,.int .u8 112]).run prog w= .ok (.value (.int .i64 (dh 112))) w:=by kernel_rfl
theorem Ut(w:World):(callFunc 228 #[.string ⟨#[65,66,67,68,71,100,72,102,64,80,88,76,77]⟩,.int .u8 113]).run prog w= .ok (.value (.int .i64 (dh 113))) w:=by kernel_rfl
theorem Uu(w:World):(callFunc 228 #[.string ⟨#[65,66,67,68,71,100,72,102,64,80,88,76,77]⟩,.int .u8 114]).run prog w= .ok (.value (.int .i64 (dh 114))) w:=by kernel_rfl
theorem Uv(w:World):(callFunc 228 #[.string ⟨#[65,66,67,68,71,100,72,102,64,80,88,76,77]⟩,.int .u8 115]).run prog w= .ok (.value (.int .i64 (dh 115))) w:=by kernel_rfl
theorem Uw(w:World):(callFunc 228 #[.string ⟨#[65,66,67,68,71,100,72,102,64,80,88,76,77]⟩,.int .u8 116]).run prog w= .ok (.value (.int .i64 (dh 116))) w:=by kernel_rfl
theorem Ux(w:World):(callFunc 228 #[.string ⟨#[65,66,67,68,71,100,72,102,64,80,88,76,77]⟩,.int .u8 117]).run prog w= .ok (.value (.int .i64 (dh 117))) w:=by kernel_rfl
theorem Uy(w:World):(callFunc 228 #[.string ⟨#[65,66,67,68,71,100,72,102,64,80,88,76,77]⟩,.int .u8 118]).run prog w= .ok (.value (.int .i64 (dh 118))) w:=by kernel_rfl
theorem Uz(w:World):(callFunc 228 #[.string ⟨#[65,66,67,68,71,100,72,102,64,80,88,76,77]⟩,.int .u8 119]).run prog w= .ok (.value (.int .i64 (dh 119))) w:=by kernel_rfl
theorem UA(w:World):(callFunc 228 #[.string ⟨#[65,66,67,68,71,100,72,102,64,80,88,76,77]⟩,.int .u8 120]).run prog w= .ok (.value (.int .i64 (dh 120))) w:=by kernel_rfl
theorem UB(w:World):(callFunc 228 #[.string ⟨#[65,66,67,68,71,100,72,102,64,80,88,76,77]⟩,.int .u8 121]).run prog w= .ok (.value (.int .i64 (dh 121))) w:=by kernel_rfl
theorem UC(w:World):(callFunc 228 #[.string ⟨#[65,66,67,68,71,100,72,102,64,80,88,76,77]⟩,.int .u8 122]).run prog w= .ok (.value (.int .i64 (dh 122))) w:=by kernel_rfl
theorem UD(w:World):(callFunc 228 #[.string ⟨#[65,66,67,68,71,100,72,102,64,80,88,76,77]⟩,.int .u8 123]).run prog w= .ok (.value (.int .i64 (dh 123))) w:=by kernel_rfl
theorem UE(w:World):(callFunc 228 #[.string ⟨#[65,66,67,68,71,100,72,102,64,80,88,76,77]⟩,.int .u8 124]).run prog w= .ok (.value (.int .i64 (dh 124))) w:=by kernel_rfl
theorem UF(w:World):(callFunc 228 #[.string ⟨#[65,66,67,68,71,100,72,102,64,80,88,76,77]⟩,.int .u8 125]).run prog w= .ok (.value (.int .i64 (dh 125))) w:=by kernel_rfl
theorem UG(w:World):(callFunc 228 #[.string ⟨#[65,66,67,68,71,100,72,102,64,80,88,76,77]⟩,.int .u8 126]).run prog w= .ok (.value (.int .i64 (dh 126))) w:=by kernel_rfl
theorem QY(c:Int)(h:64≤c∧c≤126)(w:World):(callFunc 228 #[.string ⟨#[65,66,67,68,71,100,72,102,64,80,88,76,77]⟩,.int .u8 c]).run prog w= .ok (.value (.int .i64 (dh c))) w:=by
 rcases(show c=64∨c=65∨c=66∨c=67∨c=68∨c=69∨c=70∨c=71∨c=72∨c=73∨c=74∨c=75∨c=76∨c=77∨c=78∨c=79∨c=80∨c=81∨c=82∨c=83∨c=84∨c=85∨c=86∨c=87∨c=88∨c=89∨c=90∨c=91∨c=92∨c=93∨c=94∨c=95∨c=96∨c=97∨c=98∨c=99∨c=100∨c=101∨c=102∨c=103∨c=104∨c=105∨c=106∨c=107∨c=108∨c=109∨c=110∨c=111∨c=112∨c=113∨c=114∨c=115∨c=116∨c=117∨c=118∨c=119∨c=120∨c=121∨c=122∨c=123∨c=124∨c=125∨c=126 by omega)with rfl|rfl|rfl|rfl|rfl|rfl|rfl|rfl|rfl|rfl|rfl|rfl|rfl|rfl|rfl|rfl|rfl|rfl|rfl|rfl|rfl|rfl|rfl|rfl|rfl|rfl|rfl|rfl|rfl|rfl|rfl|rfl|rfl|rfl|rfl|rfl|rfl|rfl|rfl|rfl|rfl|rfl|rfl|rfl|rfl|rfl|rfl|rfl|rfl|rfl|rfl|rfl|rfl|rfl|rfl|rfl|rfl|rfl|rfl|rfl|rfl|rfl|rfl
 ·exact X9 w
 ·exact X_ w
 ·exact Ya w
 ·exact Yb w
 ·exact Yc w
 ·exact Yd w
 ·exact Ye w
 ·exact Yf w
 ·exact Yg w
 ·exact Yh w
 ·exact Yi w
 ·exact Yj w
 ·exact Yk w
 ·exact Yl w
 ·exact Ym w
 ·exact Yn w
 ·exact Yo w
 ·exact Yp w
 ·exact Yq w
 ·exact Yr w
 ·exact Yt w
 ·exact Yu w
 ·exact Yv w
 ·exact Yw w
 ·exact Yx w
 ·exact Yy w
 ·exact Yz w
 ·exact YA w
 ·exact YB w
 ·exact YC w
 ·exact YD w
 ·exact YE w
 ·exact YF w
 ·exact YG w
 ·exact YH w
 ·exact YI w
 ·exact Ue w
 ·exact Uf w
 ·exact Ug w
 ·exact Uh w
 ·exact Ui w
 ·exact Uj w
 ·exact Uk w
 ·exact Ul w
 ·exact Um w
 ·exact Un w
 ·exact Uo w
 ·exact Uq w
 ·exact Ur w
 ·exact Ut w
 ·exact Uu w
 ·exact Uv w
 ·exact Uw w
 ·exact Ux w
 ·exact Uy w
 ·exact Uz w
 ·exact UA w
 ·exact UB w
 ·exact UC w
 ·exact UD w
 ·exact UE w
 ·exact UF w
 ·exact UG w
theorem OH(c:Int)(h:64≤c∧c≤126):decide (0≤dh c)=TS.mW c:=by rcases(show c=64∨c=65∨c=66∨c=67∨c=68∨c=69∨c=70∨c=71∨c=72∨c=73∨c=74∨c=75∨c=76∨c=77∨c=78∨c=79∨c=80∨c=81∨c=82∨c=83∨c=84∨c=85∨c=86∨c=87∨c=88∨c=89∨c=90∨c=91∨c=92∨c=93∨c=94∨c=95∨c=96∨c=97∨c=98∨c=99∨c=100∨c=101∨c=102∨c=103∨c=104∨c=105∨c=106∨c=107∨c=108∨c=109∨c=110∨c=111∨c=112∨c=113∨c=114∨c=115∨c=116∨c=117∨c=118∨c=119∨c=120∨c=121∨c=122∨c=123∨c=124∨c=125∨c=126 by omega)with rfl|rfl|rfl|rfl|rfl|rfl|rfl|rfl|rfl|rfl|rfl|rfl|rfl|rfl|rfl|rfl|rfl|rfl|rfl|rfl|rfl|rfl|rfl|rfl|rfl|rfl|rfl|rfl|rfl|rfl|rfl|rfl|rfl|rfl|rfl|rfl|rfl|rfl|rfl|rfl|rfl|rfl|rfl|rfl|rfl|rfl|rfl|rfl|rfl|rfl|rfl|rfl|rfl|rfl|rfl|rfl|rfl|rfl|rfl|rfl|rfl|rfl|rfl<;>rfl
theorem Ld(c:Int)(h:64≤c∧c≤126)(w:World):Calls prog 133 #[.string ⟨#[65,66,67,68,71,100,72,102,64,80,88,76,77]⟩,.int .u8 c] w fun e w'=>e= .returned (.int .i64 (dh c))∧w'=w:=by
 have l1:Calls prog 176 #[.string ⟨#[65,66,67,68,71,100,72,102,64,80,88,76,77]⟩,.int .u8 c] w fun e w'=>e= .returned (.int .i64 (dh c))∧w'=w:=by have h:=QY c h w;go_enter func176,ntmps176;go_wp2_with fail;go_ret;exact⟨rfl,rfl⟩
 generalize dh c=r at*;go_enter func133,ntmps133;go_wp2_with (go_at_call 176;refine l1.mono ?_;rintro e w1 ⟨rfl,hw1⟩;have hw2:=hw1.symm;subst hw2);go_ret;exact⟨rfl,rfl⟩
end Go.Proofs.YtheibfffilomcabGreatDoor
