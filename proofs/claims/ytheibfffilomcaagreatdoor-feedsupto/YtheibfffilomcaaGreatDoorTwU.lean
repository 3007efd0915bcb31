import Derived.Test.YtheibfffilomcaaGreatDoorTmaU
import Derived.Test.YtheibfffilomcaaGreatDoorTuU
set_option linter.all false
set_option maxRecDepth 100000
set_option maxHeartbeats 2000000
namespace Go.Proofs.YtheibfffilomcaaGreatDoor
open Go.RowKit Go.Proofs.Tryz
theorem Cc:∀(l:List Int) (s:TS) (x:Int),s.turns (l++[x])=({(s.turns l)with pen:=TS.turn (s.turns l).pen (TS.amount x)}:TS)
 | [],_,_=>rfl
 |y::l,s,x=>by show({s with pen:=TS.turn s.pen (TS.amount y)}:TS).turns (l++[x])=_;rw[Cc l];rfl
theorem TS.Inv.turns{s:TS}:∀(l:List Int),s.Inv→(s.turns l).Inv:=by
 intro l;induction l generalizing s with
 |nil=>exact id
 |cons x l ih=>exact fun h=>ih (h.upd rfl rfl rfl rfl rfl rfl rfl h.row0 h.jK h.jA h.jD h.iO h.tb h.bot h.sh)
theorem jq(p:fO):∀v∈dG p,v.oneCell'=true:=by intro v hv;simp only[dG,kK,pX,pY]at hv;rcases hv with rfl|rfl|rfl|rfl|rfl<;>rfl
theorem uq{o:Oper}{l:List Value}{ds:List Deferred}{u:World}{K:Act→World→Prop}{Q:Exit→Act→World→Prop}(d:Nat)(x:Operand)(ho:o.op= .load 80 x)(hd:o.dst=some d)(b j:Nat)(p:fO)(hx:Act.eval ⟨l.toArray,ds⟩ x= .pointer (some ⟨b,j,none⟩))(hc:u.rangeAt b j (dG p))(h:K ⟨(l.set d (.agg (aW p))).toArray,ds⟩ u):Oper.wp prog o ⟨l.toArray,ds⟩ u K Q:=by
 refine wp_load_mid 80 x ho b j hx (dG p) _ hc underlying80 rfl lU ?_;rw[hd];simpa[Act.put,aW]using h
theorem Jv(L:Lay)(s:TS)(w:World)(ht:cO w L s)(hi:s.Inv)(ev:List Int)(hev:ev.length=21)(ct:Nat)(hct:ev.getD 4 0=(ct:Int))(abZ:ct≤16)(hps:∀x∈ev.drop 5,-1≤x∧x≤65535):
 Calls prog 113 #[.pointer (some ⟨L.tb,0,none⟩),.agg (aA ev)] w fun e w'=>e= .returned (.tuple #[])∧cO w' L (s.kC (ev.getD 3 0) (ev.drop 5) ct)∧Ch L.own w w':=by
 have HTW:Hid _:=ht;have HT0:=ht.sm ((Ch.refl (fun _=>False) w).alloc (.cells (aA ev) 46));have Em:Hid ((w.alloc (.cells (aA ev) 46)).heap[w.heap.size]? =some (.cells (aA ev) 46 (0,0))):=bV _ _;have e3:=kD (j:=3) Em.o (by omega);have e4:=kD (j:=4) Em.o (by omega);have e5:=kD (j:=5) Em.o (by omega);have e6:=kD (j:=6) Em.o (by omega);have g0:(ev.drop 5).getD 0 0=ev.getD 5 0:=by simp[List.getD]
 have g1:(ev.drop 5).getD 1 0=ev.getD 6 0:=by simp[List.getD]
 have hb5: -1≤ev.getD 5 0∧ev.getD 5 0≤65535:=by rw[←g0];refine hps _ ?_;simp[List.getD,eG (show 5<ev.length by omega)];exact List.mem_iff_getElem.2 ⟨0,by simp;omega,by simp⟩
 have hb6: -1≤ev.getD 6 0∧ev.getD 6 0≤65535:=by rw[←g1];refine hps _ ?_;simp[List.getD,eG (show 6<ev.length by omega)];exact List.mem_iff_getElem.2 ⟨1,by simp;omega,by simp⟩
 rw[hct]at e4;have ng:Hid (Ch L.own w (w.alloc (.cells (aA ev) 46))):=(Ch.refl _ _).alloc _;have Di:Hid (¬L.own w.heap.size):=fun h=>by have:=ht.pQ h;omega
 have FP:Hid (w.heap.size<(w.alloc (.cells (aA ev) 46)).heap.size):=by show _<_;simp
 have hlt:=ht.lt;have hX:s.kC (ev.getD 3 0) (ev.drop 5) ct=if ev.getD 3 0=114 then s.gU (TS.times (ev.getD 5 0)-1) (TS.amount (ev.getD 6 0)-1)else if ev.getD 3 0=103 then s.fM (TS.amount (ev.getD 5 0))else if ev.getD 3 0=109 then s.turns ((ev.drop 5).take ct)
  else if ev.getD 3 0=104∨ev.getD 3 0=108 then(if ev.getD 5 0=4 then{s with insert:=decide (ev.getD 3 0=104)} else s)else s:=by unfold TS.kC;rw[g0,g1]
 generalize s.kC (ev.getD 3 0) (ev.drop 5) ct=X at*;generalize ev.getD 3 0=f at*;generalize ev.getD 5 0=p0 at*;generalize ev.getD 6 0=p1 at*;have HI:Hid s.Inv:=hi;have HT:Hid _:=HT0;have ht0:1≤TS.times p0∧TS.times p0≤65535:=by unfold TS.times;omega
 have ha1:0≤TS.amount p1∧TS.amount p1≤65535:=by unfold TS.amount;omega
 clear ht hi HT0 g0 g1;rcases(show f=114∨f=103∨f=109∨f=104∨f=108∨¬(f=114∨f=103∨f=109∨f=104∨f=108) by omega)with rfl|rfl|rfl|rfl|rfl|hf
 ·have HX:Hid _:=hX;have v1:IntKind.i64.wrap (TS.times p0-1)=TS.times p0-1:=bD _ (by omega);have v2:IntKind.i64.wrap (TS.amount p1-1)=TS.amount p1-1:=bD _ (by omega);clear hX;go_enter func113,ntmps113;go_wp2_with fail;generalize hW:w.alloc (Obj.cells (aA ev) 46)=W at*;generalize hlb:w.heap.size=lb at*;have HT1:cO ({W with drawn:=W.drawn+1}:World) L s:=HT.o.sm ((Ch.refl _ _).drewN 1);have HH:World.cell? ({W with drawn:=W.drawn+1}:World) ⟨lb,5,none⟩=some (.int .i64 p0)∧World.cell? ({W with drawn:=W.drawn+1}:World) ⟨lb,6,none⟩=some (.int .i64 p1):=⟨e5,e6⟩;refine dX (S:=fun x=>x.cell? ⟨lb,5,none⟩=some (.int .i64 p0)∧x.cell? ⟨lb,6,none⟩=some (.int .i64 p1)) aX ?_;refine dW 0 1 HH ?_;refine aj 2 HH ?_ (v:=.pointer (some ⟨lb,5,none⟩));refine aj 3 HH ?_;simp only[ag,af];refine aj 6 HH ?_;refine aj 7 HH ?_ (v:=.pointer (some ⟨lb,6,none⟩));refine aj 8 HH ?_;simp only[ag,af];refine av 4 ?_;refine dN (vs:=[.int .i64 p0]) (iA _ _) ?_;rintro v2 w9 ⟨rfl,rfl⟩;refine⟨HH,?_⟩;simp only[ag,af];refine aj 5 HH ?_ (v:=.int .i64 (TS.times p0-1));simp only[ag,af];refine av 9 ?_;refine dN (vs:=[.int .i64 p1]) (fQ _ _) ?_;rintro v2 w9 ⟨rfl,rfl⟩;refine⟨HH,?_⟩;simp only[ag,af];refine aj 10 HH ?_ (v:=.int .i64 (TS.amount p1-1));simp only[ag,af];refine av 11 ?_;refine a_ (vs:=[.pointer (some ⟨L.tb,0,none⟩),.int .i64 (TS.times p0-1),.int .i64 (TS.amount p1-1)]) (R:=fun v w'=>v= .tuple #[]∧cO w' L X∧Ch L.own W w') ((CK L s _ HT1 HI.o (TS.times p0-1) (TS.amount p1-1) (by omega)).mono fun e w' h=>⟨_,h.1,rfl,by rw[HX.o];exact h.2.1,⟨h.2.2.os,h.2.2.tape,h.2.2.output,h.2.2.size,h.2.2.block⟩⟩) ?_;rintro v2 w9 ⟨rfl,t9,c9⟩;refine⟨⟨(dA (c9.block lb FP.o Di.o)).trans e5,(dA (c9.block lb FP.o Di.o)).trans e6⟩,?_⟩;simp only[ag,af];refine aC ?_;have HF:Hid (cO w9 L X∧Ch L.own w w9):=⟨t9,ng.o.trans c9⟩;clear t9 c9 HT1 HH;go_wp2_with fail;go_end0;exact⟨rfl,HF.o.1,HF.o.2⟩
 ·have HX:Hid _:=hX;clear hX;have l1:=CB L s _ HT.o HI.o (TS.amount p0);go_enter func113,ntmps113;go_wp2_with (first|(go_at_call 183;refine(fQ p0 _).mono ?_;rintro e w1 ⟨rfl,hw1⟩;have hw2:=hw1.symm;subst hw2)|(go_at_call 192;refine l1.mono ?_;rintro e w2 ⟨rfl,h2,c2⟩));go_end0;exact⟨rfl,by rw[HX.o];exact h2,ng.o.trans c2⟩
 ·have HX:Hid _:=hX;clear hX;have i1:(ct:Int)≤16:=by omega
  have hlen:((ev.drop 5).take ct).length=ct:=by rw[kg,o8];omega
  have hcs:∀j x,((ev.drop 5).take ct)[j]? =some x→(w.alloc (.cells (aA ev) 46)).cell? ⟨w.heap.size,5+j,none⟩=some (.int .i64 x):=fun j x hx=>by
   rw[mJ]at hx;split at hx
   ·rw[rf]at hx;have:=kD (j:=5+j) Em.o (gJ.1 hx).1;rw[this];simp[List.getD,hx]
   ·cases hx
  have hbs:∀x∈(ev.drop 5).take ct,0≤TS.amount x∧TS.amount x≤70000:=fun x hx=>by have:=hps x (AL hx);unfold TS.amount;omega
  generalize (ev.drop 5).take ct=ns at*;have Wz:Hid _:=hcs;have Tv:Hid _:=hbs;clear hcs hbs hps;go_enter func113,ntmps113;go_wp2_with fail;generalize hW:w.alloc (Obj.cells (aA ev) 46)=W at*;generalize hlb:w.heap.size=lb at*;go_loopw [37] (fun i wr=>∃k:Nat,k≤ct∧i= .int .i64 k∧cO wr L (s.turns (ns.take k))∧Ch L.own W wr) (fun i _=>ct-(intOf i).toNat)
  case atStart=>exact⟨0,dx _,rfl,HT.o,Ch.refl _ _⟩
  case round=>
   obtain⟨k,hk,rfl,R,C⟩:=hrel;by_cases hlt2:k<ct
   ·have ik:(k:Int)<(ct:Int):=by omega
    obtain⟨x,hx⟩:∃x,ns[k]? =some x:=⟨_,eG (by omega)⟩;have hcell:wr.cell? ⟨lb,5+k,none⟩=some (.int .i64 x):=(dA (C.block lb FP.o Di.o)).trans (Wz.o k x hx);have hxa:=Tv.o x (iH hx);have hts:s.turns (ns.take (k+1))=({(s.turns (ns.take k))with pen:=TS.turn (s.turns (ns.take k)).pen (TS.amount x)}:TS):=by obtain⟨h1,h2⟩:=gJ.1 hx;rw[o7 h1,h2,Cc]
    have Ud:Hid _:=hts;generalize s.turns (ns.take k)=t at*;have HR:Hid _:=R;have n_:Hid _:=C;clear R C hts hx;have vk:IntKind.i64.wrap ((k:Int)+1)=(k:Int)+1:=bD _ (by omega);go_wp2_with fail;have RG:World.rangeAt ({wr with drawn:=wr.drawn+1}:World) L.tb 29 (dG t.pen):=(HR.o.sm ((Ch.refl _ _).drewN 1)).range' 29 _ rfl;refine dX (S:=fun _=>True) aX ?_;refine ay 0 1 2 3 trivial ?_;simp only[ag,af];refine dH 4 5 7 trivial ?_;simp only[ag,af];refine lQ 6 8 ?_ ?_
    ·refine dI ?_;refine uq 47 (.tmp 46) rfl rfl L.tb 29 t.pen rfl (RG) ?_;refine⟨trivial,?_⟩;simp only[ag,af];refine av 8 ?_;refine dN (vs:=[.int .i64 x]) (fQ _ _) ?_;rintro v2 w9 ⟨rfl,rfl⟩;refine⟨trivial,?_⟩;simp only[ag,af];refine av 9 ?_;refine a_ (vs:=[.agg (aW t.pen),.int .i64 (TS.amount x)]) (R:=fun v w'=>v= .agg (aW (TS.turn t.pen (TS.amount x)))∧Sm wr w') ((IL t.pen (TS.amount x) _ hxa).mono fun e w' h=>⟨_,h.1,rfl,⟨h.2.os,h.2.tape,h.2.output,h.2.size,fun k hk _=>h.2.block k hk⟩⟩) ?_;rintro v2 w8 ⟨rfl,RV⟩;refine⟨trivial,?_⟩;simp only[ag,af];refine ay 10 11 12 13 trivial ?_;simp only[ag,af];refine av 14 ?_;refine qX 80 (.tmp 54) (.tmp 50) rfl rfl L t {t with pen:=TS.turn t.pen (TS.amount x)} 29 (dG (TS.turn t.pen (TS.amount x))) lU rfl rfl (jq _) (HR.o.sm RV) (by show 29+5≤44;omega) rfl rfl rfl rfl rfl ?_;intro u7 t7 c7 _;refine⟨trivial,?_⟩;refine aC ?_;have HF:Hid (cO u7 L {t with pen:=TS.turn t.pen (TS.amount x)}∧Ch L.own W u7):=⟨t7,n_.o.trans ((Sm.ch RV).trans c7)⟩;clear t7 c7 RV HR n_;go_wp2_with fail;go_roundw
     case rel=>exact⟨k+1,by omega,by go_num,by rw[Ud.o];exact HF.o.1,HF.o.2⟩
     case measure=>simp[intOf];omega
    ·refine dI ?_;refine dN (vs:=[.int .i64 x]) (fQ _ _) ?_;rintro v2 w9 ⟨rfl,rfl⟩;refine⟨trivial,?_⟩;simp only[ag,af];refine av 6 ?_;refine uq 47 (.tmp 46) rfl rfl L.tb 29 t.pen rfl (RG) ?_;refine⟨trivial,?_⟩;simp only[ag,af];refine av 9 ?_;refine a_ (vs:=[.agg (aW t.pen),.int .i64 (TS.amount x)]) (R:=fun v w'=>v= .agg (aW (TS.turn t.pen (TS.amount x)))∧Sm wr w') ((IL t.pen (TS.amount x) _ hxa).mono fun e w' h=>⟨_,h.1,rfl,⟨h.2.os,h.2.tape,h.2.output,h.2.size,fun k hk _=>h.2.block k hk⟩⟩) ?_;rintro v2 w8 ⟨rfl,RV⟩;refine⟨trivial,?_⟩;simp only[ag,af];refine ay 10 11 12 13 trivial ?_;simp only[ag,af];refine av 14 ?_;refine qX 80 (.tmp 54) (.tmp 50) rfl rfl L t {t with pen:=TS.turn t.pen (TS.amount x)} 29 (dG (TS.turn t.pen (TS.amount x))) lU rfl rfl (jq _) (HR.o.sm RV) (by show 29+5≤44;omega) rfl rfl rfl rfl rfl ?_;intro u7 t7 c7 _;refine⟨trivial,?_⟩;refine aC ?_;have HF:Hid (cO u7 L {t with pen:=TS.turn t.pen (TS.amount x)}∧Ch L.own W u7):=⟨t7,n_.o.trans ((Sm.ch RV).trans c7)⟩;clear t7 c7 RV HR n_;go_wp2_with fail;go_roundw
     case rel=>exact⟨k+1,by omega,by go_num,by rw[Ud.o];exact HF.o.1,HF.o.2⟩
     case measure=>simp[intOf];omega
   ·have hkn:k=ct:=by omega
    have hnt:ns.take k=ns:=l6 (by omega);rw[hnt]at R;subst hkn;have HR:Hid _:=R;have n_:Hid (Ch L.own w wr):=ng.o.trans C;clear R C;go_wp2_with fail;go_end0;exact⟨rfl,by rw[HX.o];exact HR.o,n_.o⟩
 ·have HX:Hid (X=if p0=4 then{s with insert:=true} else s):=by show X=_;rw[hX];rfl
  have d41:=HT.o.c 41 _ rfl;have g41:=HT.o.f 41;clear hX;by_cases hp:p0=4
  ·rw[ak hp]at HX;have bp:(p0==4)=true:=by simp[hp]
   clear hp;go_enter func113,ntmps113;go_wp2_with fail;go_end0;exact⟨rfl,by rw[HX.o];exact(HTW.o.set (s':={s with insert:=true}) 41 (.bool true) rfl rfl rfl rfl rfl).sm ((Ch.refl _ _).alloc _),((Ch.refl _ _).nJ _ _).alloc _⟩
  ·rw[ai hp]at HX;have bp:(p0==4)=false:=by simp[hp]
   clear hp;go_enter func113,ntmps113;go_wp2_with fail;go_end0;exact⟨rfl,by rw[HX.o];exact HT.o,ng.o⟩
 ·have HX:Hid (X=if p0=4 then{s with insert:=false} else s):=by show X=_;rw[hX];rfl
  have d41:=HT.o.c 41 _ rfl;have g41:=HT.o.f 41;clear hX;by_cases hp:p0=4
  ·rw[ak hp]at HX;have bp:(p0==4)=true:=by simp[hp]
   clear hp;go_enter func113,ntmps113;go_wp2_with fail;go_end0;exact⟨rfl,by rw[HX.o];exact(HTW.o.set (s':={s with insert:=false}) 41 (.bool false) rfl rfl rfl rfl rfl).sm ((Ch.refl _ _).alloc _),((Ch.refl _ _).nJ _ _).alloc _⟩
  ·rw[ai hp]at HX;have bp:(p0==4)=false:=by simp[hp]
   clear hp;go_enter func113,ntmps113;go_wp2_with fail;go_end0;exact⟨rfl,by rw[HX.o];exact HT.o,ng.o⟩
 ·rw[ai (by omega),ai (by omega),ai (by omega),ai (by omega)]at hX;have HX:Hid _:=hX;have b1:(f==114)=false:=by simp;omega
  have b2:(f==103)=false:=by simp;omega
  have b3:(f==109)=false:=by simp;omega
  have b4:(f==104)=false:=by simp;omega
  have b5:(f==108)=false:=by simp;omega
  clear hX hf;go_enter func113,ntmps113;go_wp2_with fail;go_end0;exact⟨rfl,by rw[HX.o];exact HT.o,ng.o⟩
def fH (c:Int):Int:=if c=65 then 0 else if c=66 then 1 else if c=67 then 2 else if c=68 then 3 else if c=71 then 4 else if c=100 then 5 else if c=72 then 6 else if c=102 then 7 else if c=64 then 8 else if c=80 then 9 else if c=88 then 10 else if c=76 then 11 else if c=77 then 12 else-1
theorem aa7(w:World):(callFunc 230 #[.string ⟨#[65,66,67,68,71,100,72,102,64,80,88,76,77]⟩,.int .u8 64]).run prog w= .ok (.value (.int .i64 (fH 64))) w:=by kernel_rfl
theorem aa8(w:World):(callFunc 230 #[.string ⟨#[65,66,67,68,71,100,72,102,64,80,88,76,77]⟩,.int .u8 65]).run prog w= .ok (.value (.int .i64 (fH 65))) w:=by kernel_rfl
theorem aa9(w:World):(callFunc 230 #[.string ⟨#[65,66,67,68,71,100,72,102,64,80,88,76,77]⟩,.int .u8 66]).run prog w= .ok (.value (.int .i64 (fH 66))) w:=by kernel_rfl
theorem aa_(w:World):(callFunc 230 #[.string ⟨#[65,66,67,68,71,100,72,102,64,80,88,76,77]⟩,.int .u8 67]).run prog w= .ok (.value (.int .i64 (fH 67))) w:=by kernel_rfl
theorem aba(w:World):(callFunc 230 #[.string ⟨#[65,66,67,68,71,100,72,102,64,80,88,76,77]⟩,.int .u8 68]).run prog w= .ok (.value (.int .i64 (fH 68))) w:=by kernel_rfl
theorem abb(w:World):(callFunc 230 #[.string ⟨#[65,66,67,68,71,100,72,102,64,80,88,76,77]⟩,.int .u8 69]).run prog w= .ok (.value (.int .i64 (fH 69))) w:=by kernel_rfl
theorem abd(w:World):(callFunc 230 #[.string ⟨#[65,66,67,68,71,100,72,102,64,80,88,76,77]⟩,.int .u8 70]).run prog w= .ok (.value (.int .i64 (fH 70))) w:=by kernel_rfl
theorem abe(w:World):(callFunc 230 #[.string ⟨#[65,66,67,68,71,100,72,102,64,80,88,76,77]⟩,.int .u8 71]).run prog w= .ok (.value (.int .i64 (fH 71))) w:=by kernel_rfl
theorem abf(w:World):(callFunc 230 #[.string ⟨#[65,66,67,68,71,100,72,102,64,80,88,76,77]⟩,.int .u8 72]).run prog w= .ok (.value (.int .i64 (fH 72))) w:=by kernel_rfl
theorem abg(w:World):(callFunc 230 #[.string ⟨#[65,66,67,68,71,100,72,102,64,80,88,76,77]⟩,.int .u8 73]).run prog w= .ok (.value (.int .i64 (fH 73))) w:=by kernel_rfl
theorem abh(w:World):(callFunc 230 #[.string ⟨#[65,66,67,68,71,100,72,102,64,80,88,76,77]⟩,.int .u8 74]).run prog w= .ok (.value (.int .i64 (fH 74))) w:=by kernel_rfl
theorem abj(w:World):(callFunc 230 #[.string ⟨#[65,66,67,68,71,100,72,102,64,80,88,76,77]⟩,.int .u8 75]).run prog w= .ok (.value (.int .i64 (fH 75))) w:=by kernel_rfl
theorem abk(w:World):(callFunc 230 #[.string ⟨#[65,66,67,68,71,100,72,102,64,80,88,76,77]⟩,.int .u8 76]).run prog w= .ok (.value (.int .i64 (fH 76))) w:=by kernel_rfl
theorem abl(w:World):(callFunc 230 #[.string ⟨#[65,66,67,68,71,100,72,102,64,80,88,76,77]⟩,.int .u8 77]).run prog w= .ok (.value (.int .i64 (fH 77))) w:=by kernel_rfl
theorem abm(w:World):(callFunc 230 #[.string ⟨#[65,66,67,68,71,100,72,102,64,80,88,76,77]⟩,.int .u8 78]).run prog w= .ok (.value (.int .i64 (fH 78))) w:=by kernel_rfl
theorem abn(w:World):(callFunc 230 #[.string ⟨#[65,66,67,68,71,100,72,102,64,80,88,76,77]⟩,.int .u8 79]).run prog w= .ok (.value (.int .i64 (fH 79))) w:=by kernel_rfl
theorem abo(w:World):(callFunc 230 #[.string ⟨#[65,66,67,68,71,100,72,102,64,80,88,76,77]⟩,.int .u8 80]).run prog w= .ok (.value (.int .i64 (fH 80))) w:=by kernel_rfl
theorem abp(w:World):(callFunc 230 #[.string ⟨#[65,66,67,68,71,100,72,102,64,80,88,76,77]⟩,.int .u8 81]).run prog w= .ok (.value (.int .i64 (fH 81))) w:=by kernel_rfl
theorem abq(w:World):(callFunc 230 #[.string ⟨#[65,66,67,68,71,100,72,102,64,80,88,76,77]⟩,.int .u8 82]).run prog w= .ok (.value (.int .i64 (fH 82))) w:=by kernel_rfl
theorem abr(w:World):(callFunc 230 #[.string ⟨#[65,66,67,68,71,100,72,102,64,80,88,76,77]⟩,.int .u8 83]).run prog w= .ok (.value (.int .i64 (fH 83))) w:=by kernel_rfl
theorem abt(w:World):(callFunc 230 #[.string ⟨#[65,66,67,68,71,100,72,102,64,80,88,76,77]⟩,.int .u8 84]).run prog w= .ok (.value (.int .i64 (fH 84))) w:=by kernel_rfl
theorem abu(w:World):(callFunc 230 #[.string ⟨#[65,66,67,68,71,100,72,102,64,80,88,76,77]⟩,.int .u8 85]).run prog w= .ok (.value (.int .i64 (fH 85))) w:=by kernel_rfl
theorem abv(w:World):(callFunc 230 #[.string ⟨#[65,66,67,68,71,100,72,102,64,80,88,76,77]⟩,.int .u8 86]).run prog w= .ok (.value (.int .i64 (fH 86))) w:=by kernel_rfl
theorem abw(w:World):(callFunc 230 #[.string ⟨#[65,66,67,68,71,100,72,102,64,80,88,76,77]⟩,.int .u8 87]).run prog w= .ok (.value (.int .i64 (fH 87))) w:=by kernel_rfl
theorem abx(w:World):(callFunc 230 #[.string ⟨#[65,66,67,68,71,100,72,102,64,80,88,76,77]⟩,.int .u8 88]).run prog w= .ok (.value (.int .i64 (fH 88))) w:=by kernel_rfl
theorem aby(w:World):(callFunc 230 #[.string ⟨#[65,66,67,68,71,100,72,102,64,80,88,76,77]⟩,.int .u8 89]).run prog w= .ok (.value (.int .i64 (fH 89))) w:=by kernel_rfl
theorem abz(w:World):(callFunc 230 #[.string ⟨#[65,66,67,68,71,100,72,102,64,80,88,76,77]⟩,.int .u8 90]).run prog w= .ok (.value (.int .i64 (fH 90))) w:=by kernel_rfl
theorem abA(w:World):(callFunc 230 #[.string ⟨#[65,66,67,68,71,100,72,102,64,80,88,76,77]⟩,.int .u8 91]).run prog w= .ok (.value (.int .i64 (fH 91))) w:=by kernel_rfl
theorem abB(w:World):(callFunc 230 #[.string ⟨#[65,66,67,68,71,100,72,102,64,80,88,76,77]⟩,.int .u8 92]).run prog w= .ok (.value (.int .i64 (fH 92))) w:=by kernel_rfl
theorem abC(w:World):(callFunc 230 #[.string ⟨#[65,66,67,68,71,100,72,102,64,80,88,76,77]⟩,.int .u8 93]).run prog w= .ok (.value (.int .i64 (fH 93))) w:=by kernel_rfl
theorem abD(w:World):(callFunc 230 #[.string ⟨#[65,66,67,68,71,100,72,102,64,80,88,76,77]⟩,.int .u8 94]).run prog w= .ok (.value (.int .i64 (fH 94))) w:=by kernel_rfl
theorem abE(w:World):(callFunc 230 #[.string ⟨#[65,66,67,68,71,100,72,102,64,80,88,76,77]⟩,.int .u8 95]).run prog w= .ok (.value (.int .i64 (fH 95))) w:=by kernel_rfl
theorem abF(w:World):(callFunc 230 #[.string ⟨#[65,66,67,68,71,100,72,102,64,80,88,76,77]⟩,.int .u8 96]).run prog w= .ok (.value (.int .i64 (fH 96))) w:=by kernel_rfl
theorem abG(w:World):(callFunc 230 #[.string ⟨#[65,66,67,68,71,100,72,102,64,80,88,76,77]⟩,.int .u8 97]).run prog w= .ok (.value (.int .i64 (fH 97))) w:=by kernel_rfl
theorem abH(w:World):(callFunc 230 #[.string ⟨#[65,66,67,68,71,100,72,102,64,80,88,76,77]⟩,.int .u8 98]).run prog w= .ok (.value (.int .i64 (fH 98))) w:=by kernel_rfl
theorem abI(w:World):(callFunc 230 #[.string ⟨#[65,66,67,68,71,100,72,102,64,80,88,76,77]⟩,.int .u8 99]).run prog w= .ok (.value (.int .i64 (fH 99))) w:=by kernel_rfl
theorem XO(w:World):(callFunc 230 #[.string ⟨#[65,66,67,68,71,100,72,102,64,80,88,76,77]⟩,.int .u8 100]).run prog w= .ok (.value (.int .i64 (fH 100))) w:=by kernel_rfl
theorem XQ(w:World):(callFunc 230 #[.string ⟨#[65,66,67,68,71,100,72,102,64,80,88,76,77]⟩,.int .u8 101]).run prog w= .ok (.value (.int .i64 (fH 101))) w:=by kernel_rfl
theorem XR(w:World):(callFunc 230 #[.string ⟨#[65,66,67,68,71,100,72,102,64,80,88,76,77]⟩,.int .u8 102]).run prog w= .ok (.value (.int .i64 (fH 102))) w:=by kernel_rfl
theorem XU(w:World):(callFunc 230 #[.string ⟨#[65,66,67,68,71,100,72,102,64,80,88,76,77]⟩,.int .u8 103]).run prog w= .ok (.value (.int .i64 (fH 103))) w:=by kernel_rfl
theorem XV(w:World):(callFunc 230 #[.string ⟨#[65,66,67,68,71,100,72,102,64,80,88,76,77]⟩,.int .u8 104]).run prog w= .ok (.value (.int .i64 (fH 104))) w:=by kernel_rfl
theorem XW(w:World):(callFunc 230 #[.string ⟨#[65,66,67,68,71,100,72,102,64,80,88,76,77]⟩,.int .u8 105]).run prog w= .ok (.value (.int .i64 (fH 105))) w:=by kernel_rfl
theorem XX(w:World):(callFunc 230 #[.string ⟨#[65,66,67,68,71,100,72,102,64,80,88,76,77]⟩,.int .u8 106]).run prog w= .ok (.value (.int .i64 (fH 106))) w:=by kernel_rfl
theorem XY(w:World):(callFunc 230 #[.string ⟨#[65,66,67,68,71,100,72,102,64,80,88,76,77]⟩,.int .u8 107]).run prog w= .ok (.value (.int .i64 (fH 107))) w:=by kernel_rfl
theorem XZ(w:World):(callFunc 230 #[.string ⟨#[65,66,67,68,71,100,72,102,64,80,88,76,77]⟩,.int .u8 108]).run prog w= .ok (.value (.int .i64 (fH 108))) w:=by kernel_rfl
theorem X4(w:World):(callFunc 230 #[.string ⟨#[65,66,67,68,71,100,72,102,64,80,88,76,77]⟩,.int .u8 109]).run prog w= .ok (.value (.int .i64 (fH 109))) w:=by kernel_rfl
theorem X5(w:World):(callFunc 230 #[.string ⟨#[65,66,67,68,71,100,72,102,64,80,88,76,77]⟩,.int .u8 110]).run prog w= .ok (.value (.int .i64 (fH 110))) w:=by kernel_rfl
theorem X6(w:World):(callFunc 230 #[.string ⟨#[65,66,67,68,71,100,72,102,64,80,88,76,77]⟩,.int .u8 111]).run prog w= .ok (.value (.int .i64 (fH 111))) w:=by kernel_rfl
theorem X7(w:World):(callFunc 230 #[.string ⟨#[65,66,67,68,71,100,72,102,64,80,88,76,77]⟩,.int .u8 112]).run prog w= .ok (.value (.int .i64 (fH 112))) w:=by kernel_rfl
theorem X8(w:World):(callFunc 230 #[.string ⟨#[65,66,67,68,71,100,72,102,64,80,88,76,77]⟩,.int .u8 113]).run prog w= .ok (.value (.int .i64 (fH 113))) w:=by kernel_rfl
theorem X9(w:World):(callFunc 230 #[.string ⟨#[65,66,67,68,71,100,72,102,64,80,88,76,77]⟩,.int .u8 114]).run prog w= .ok (.value (.int .i64 (fH 114))) w:=by kernel_rfl
theorem X_(w:World):(callFunc 230 #[.string ⟨#[65,66,67,68,71,100,72,102,64,80,88,76,77]⟩,.int .u8 115]).run prog w= .ok (.value (.int .i64 (fH 115))) w:=by kernel_rfl
theorem Ya(w:World):(callFunc 230 #[.string ⟨#[65,66,67,68,71,100,72,102,64,80,88,76,77]⟩,.int .u8 116]).run prog w= .ok (.value (.int .i64 (fH 116))) w:=by kernel_rfl
theorem Yb(w:World):(callFunc 230 #[.string ⟨#[65,66,67,68,71,100,72,102,64,80,88,76,77]⟩,.int .u8 117]).run prog w= .ok (.value (.int .i64 (fH 117))) w:=by kernel_rfl
theorem Yc(w:World):(callFunc 230 #[.string ⟨#[65,66,67,68,71,100,72,102,64,80,88,76,77]⟩,.int .u8 118]).run prog w= .ok (.value (.int .i64 (fH 118))) w:=by kernel_rfl
theorem Yd(w:World):(callFunc 230 #[.string ⟨#[65,66,67,68,71,100,72,102,64,80,88,76,77]⟩,.int .u8 119]).run prog w= .ok (.value (.int .i64 (fH 119))) w:=by kernel_rfl
theorem Ye(w:World):(callFunc 230 #[.string ⟨#[65,66,67,68,71,100,72,102,64,80,88,76,77]⟩,.int .u8 120]).run prog w= .ok (.value (.int .i64 (fH 120))) w:=by kernel_rfl
theorem Yf(w:World):(callFunc 230 #[.string ⟨#[65,66,67,68,71,100,72,102,64,80,88,76,77]⟩,.int .u8 121]).run prog w= .ok (.value (.int .i64 (fH 121))) w:=by kernel_rfl
theorem Yg(w:World):(callFunc 230 #[.string ⟨#[65,66,67,68,71,100,72,102,64,80,88,76,77]⟩,.int .u8 122]).run prog w= .ok (.value (.int .i64 (fH 122))) w:=by kernel_rfl
theorem Yh(w:World):(callFunc 230 #[.string ⟨#[65,66,67,68,71,100,72,102,64,80,88,76,77]⟩,.int .u8 123]).run prog w= .ok (.value (.int .i64 (fH 123))) w:=by kernel_rfl
theorem Yi(w:World):(callFunc 230 #[.string ⟨#[65,66,67,68,71,100,72,102,64,80,88,76,77]⟩,.int .u8 124]).run prog w= .ok (.value (.int .i64 (fH 124))) w:=by kernel_rfl
theorem Yj(w:World):(callFunc 230 #[.string ⟨#[65,66,67,68,71,100,72,102,64,80,88,76,77]⟩,.int .u8 125]).run prog w= .ok (.value (.int .i64 (fH 125))) w:=by kernel_rfl
theorem Yk(w:World):(callFunc 230 #[.string ⟨#[65,66,67,68,71,100,72,102,64,80,88,76,77]⟩,.int .u8 126]).run prog w= .ok (.value (.int .i64 (fH 126))) w:=by kernel_rfl
theorem UM(c:Int)(h:64≤c∧c≤126)(w:World):(callFunc 230 #[.string ⟨#[65,66,67,68,71,100,72,102,64,80,88,76,77]⟩,.int .u8 c]).run prog w= .ok (.value (.int .i64 (fH c))) w:=by
 rcases(show c=64∨c=65∨c=66∨c=67∨c=68∨c=69∨c=70∨c=71∨c=72∨c=73∨c=74∨c=75∨c=76∨c=77∨c=78∨c=79∨c=80∨c=81∨c=82∨c=83∨c=84∨c=85∨c=86∨c=87∨c=88∨c=89∨c=90∨c=91∨c=92∨c=93∨c=94∨c=95∨c=96∨c=97∨c=98∨c=99∨c=100∨c=101∨c=102∨c=103∨c=104∨c=105∨c=106∨c=107∨c=108∨c=109∨c=110∨c=111∨c=112∨c=113∨c=114∨c=115∨c=116∨c=117∨c=118∨c=119∨c=120∨c=121∨c=122∨c=123∨c=124∨c=125∨c=126 by omega)with rfl|rfl|rfl|rfl|rfl|rfl|rfl|rfl|rfl|rfl|rfl|rfl|rfl|rfl|rfl|rfl|rfl|rfl|rfl|rfl|rfl|rfl|rfl|rfl|rfl|rfl|rfl|rfl|rfl|rfl|rfl|rfl|rfl|rfl|rfl|rfl|rfl|rfl|rfl|rfl|rfl|rfl|rfl|rfl|rfl|rfl|rfl|rfl|rfl|rfl|rfl|rfl|rfl|rfl|rfl|rfl|rfl|rfl|rfl|rfl|rfl|rfl|rfl
 ·exact aa7 w
 ·exact aa8 w
 ·exact aa9 w
 ·exact aa_ w
 ·exact aba w
 ·exact abb w
 ·exact abd w
 ·exact abe w
 ·exact abf w
 ·exact abg w
 ·exact abh w
 ·exact abj w
 ·exact abk w
 ·exact abl w
 ·exact abm w
 ·exact abn w
 ·exact abo w
 ·exact abp w
 ·exact abq w
 ·exact abr w
 ·exact abt w
 ·exact abu w
 ·exact abv w
 ·exact abw w
 ·exact abx w
 ·exact aby w
 ·exact abz w
 ·exact abA w
 ·exact abB w
 ·exact abC w
 ·exact abD w
 ·exact abE w
 ·exact abF w
 ·exact abG w
 ·exact abH w
 ·exact abI w
 ·exact XO w
 ·exact XQ w
 ·exact XR w
 ·exact XU w
 ·exact XV w
 ·exact XW w
 ·exact XX w
 ·exact XY w
 ·exact XZ w
 ·exact X4 w
 ·exact X5 w
 ·exact X6 w
 ·exact X7 w
 ·exact X8 w
 ·exact X9 w
 ·exact X_ w
 ·exact Ya w
 ·exact Yb w
 ·exact Yc w
 ·exact Yd w
 ·exact Ye w
 ·exact Yf w
 ·exact Yg w
 ·exact Yh w
 ·exact Yi w
 ·exact Yj w
 ·exact Yk w
theorem Q3(c:Int)(h:64≤c∧c≤126):decide (0≤fH c)=TS.mZ c:=by rcases(show c=64∨c=65∨c=66∨c=67∨c=68∨c=69∨c=70∨c=71∨c=72∨c=73∨c=74∨c=75∨c=76∨c=77∨c=78∨c=79∨c=80∨c=81∨c=82∨c=83∨c=84∨c=85∨c=86∨c=87∨c=88∨c=89∨c=90∨c=91∨c=92∨c=93∨c=94∨c=95∨c=96∨c=97∨c=98∨c=99∨c=100∨c=101∨c=102∨c=103∨c=104∨c=105∨c=106∨c=107∨c=108∨c=109∨c=110∨c=111∨c=112∨c=113∨c=114∨c=115∨c=116∨c=117∨c=118∨c=119∨c=120∨c=121∨c=122∨c=123∨c=124∨c=125∨c=126 by omega)with rfl|rfl|rfl|rfl|rfl|rfl|rfl|rfl|rfl|rfl|rfl|rfl|rfl|rfl|rfl|rfl|rfl|rfl|rfl|rfl|rfl|rfl|rfl|rfl|rfl|rfl|rfl|rfl|rfl|rfl|rfl|rfl|rfl|rfl|rfl|rfl|rfl|rfl|rfl|rfl|rfl|rfl|rfl|rfl|rfl|rfl|rfl|rfl|rfl|rfl|rfl|rfl|rfl|rfl|rfl|rfl|rfl|rfl|rfl|rfl|rfl|rfl|rfl<;>rfl
theorem Nl(c:Int)(h:64≤c∧c≤126)(w:World):Calls prog 110 #[.string ⟨#[65,66,67,68,71,100,72,102,64,80,88,76,77]⟩,.int .u8 c] w fun e w'=>e= .returned (.int .i64 (fH c))∧w'=w:=by
 have l1:Calls prog 178 #[.string ⟨#[65,66,67,68,71,100,72,102,64,80,88,76,77]⟩,.int .u8 c] w fun e w'=>e= .returned (.int .i64 (fH c))∧w'=w:=by have h:=UM c h w;go_enter func178,ntmps178;go_wp2_with fail;go_ret;exact⟨rfl,rfl⟩
 generalize fH c=r at*;go_enter func110,ntmps110;go_wp2_with (go_at_call 178;refine l1.mono ?_;rintro e w1 ⟨rfl,hw1⟩;have hw2:=hw1.symm;subst hw2);go_ret;exact⟨rfl,rfl⟩
end Go.Proofs.YtheibfffilomcaaGreatDoor
