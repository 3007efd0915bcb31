import Derived.Test.YtheibfffilomcabGreatDoorR4U
import Derived.Test.YtheibfffilomcabGreatDoorTsU
set_option linter.all false
set_option maxRecDepth 100000
set_option maxHeartbeats 2000000
namespace Go.Proofs.YtheibfffilomcabGreatDoor
open Go.RowKit Go.Proofs.Tryz
variable {s:TS} {u:World} {Q:Exit→Act→World→Prop}
theorem aal(u:World):(zeroValue 4).run prog u= .ok (.bool false) u:=by kernel_rfl
theorem V4(n:Nat):(Builtin.zeroCells #[Value.bool false] n).toList=List.replicate n (Value.bool false):=by
 apply List.ext_getElem?;intro i;simp only[Builtin.zeroCells,Array.getElem?_toList,Array.getElem?_map,Array.getElem?_range,Jo];by_cases h:i<n
 ·rw[aS (by simpa using h),aS h];simp[Nat.mod_one]
 ·rw[aG (by simpa using h),aG h];rfl
theorem MR{ops:Array Oper}{rest:List Oper}{o:Oper}{a:Act}(hgd:o.guard=none)(x:Operand)(ho:o.op= .call {callee:=.builtin .clear,args:=#[x],argTypes:=#[140]})(hd:o.dst=none)(L:Lay)(s:TS)(hx:a.eval x= .slice (some ⟨L.gb,0,none⟩) s.aa s.aa)(ht:a_ u L s)(hi:s.Inv)(h:∀u',a_ u' L {s with tabs:=List.replicate s.tabs.length false}→Ch L.own u u'→wpList prog ops Q rest a u'):wpList prog ops Q (o::rest) a u:=by
 have hlen:(s.tabs.map Value.bool).length=s.aa:=by rw[List.length_map];exact hi.lt
 have hst:=run_storeCells_cells (P:=prog) L.gb 0 (List.replicate s.aa (.bool false)) 0 u (fun i hj=>by rw[Av]at hj;rw[dJ _ _ _ _ _ _ ht.tab];simp[hi.lt,hj]) (fun i _=>ou _ _ _ _ _ ht.tab) (fun v hv=>by rw[M9 hv];rfl);have hz:=size_setCells L.gb (List.replicate s.aa (.bool false)) 0 u;have hb:=pG (vs:=List.replicate s.aa (Value.bool false)) (o:=0) ht.tab (by rw[hlen,Av];omega);rw[List.take_zero,Ay,yj (by rw[hlen,Av];omega),Aw]at hb;have k:Ch (· =L.gb) u (u.setCells L.gb 0 (List.replicate s.aa (.bool false))):=⟨hz.2.1,hz.2.2.1,hz.2.2.2,by omega,fun i _ hn=>fV L.gb _ _ _ i hn⟩;have T:=ht.Da (tabs:=List.replicate s.tabs.length false) (by rw[List.map_replicate,hi.lt];exact hb) k;refine sI hgd fun K hK=>?_;have R:=hK _ _ (h _ T (k.mono fun j _ e=>.inr (.inr (.inr (.inl e)))));have hc1:=hi.c1;obtain⟨m,hm⟩:∃m,s.aa=m+1:=⟨s.aa-1,by omega⟩;have hrun:(Builtin.clear_ #[140] o.type #[.slice (some ⟨L.gb,0,none⟩) s.aa s.aa]).run prog u= .ok (.tuple #[]) (u.setCells L.gb 0 (List.replicate s.aa (.bool false))):=by rw[hm]at hst ⊢;have hzc:(Value.bool false).cells= #[.bool false]:=rfl;simp only[Builtin.clear_,kN,run_underlying underlying140,kM,AB,List.getElem?_cons_zero,aal,hzc,V4];rw[wT]at hst;rw[hst];rfl
 unfold Oper.wp;simp[execOp,ho,resolve,invoke,builtin,hx,hrun,Result.andThen,Oper.upon_value,Act.put,hd];simpa[Act.put]using R
theorem TS.Inv.Db(h:s.Inv)(t:List Bool)(ht:t.length=s.aa):({s with tabs:=t}:TS).Inv:=
 ⟨h.r1,h.r2,h.c1,h.c2,h.row0,h.iT,h.fU,h.gz,h.gN,h.tb,h.bot,h.sh,h.l0,h.l1,ht,h.VV,h.VU,h.VX,h.VW⟩
theorem TS.Inv.eD(h:s.Inv)(what:Int):(s.eD what).Inv:=by
 unfold TS.eD;split
 ·exact h.Db _ (by rw[qB];exact h.lt)
 ·split
  ·exact h.Db _ (by rw[Av];exact h.lt)
  ·exact h
theorem zX(L:Lay)(s:TS)(w:World)(ht:a_ w L s)(hi:s.Inv)(what:Int):Calls prog 190 #[.pointer (some ⟨L.tb,0,none⟩),.int .i64 what] w fun e w'=>e= .returned (.tuple #[])∧a_ w' L (s.eD what)∧Ch L.own w w':=by
 obtain⟨cc,hcc⟩:∃cc:Nat,s.col=(cc:Int):=⟨s.col.toNat,by have:=hi.fU;omega⟩;have hcl:cc<s.aa:=by have:=hi.gz;omega
 have hcl':(cc:Int)<(s.aa:Int):=by omega
 have hcn:s.col.toNat=cc:=by rw[hcc];rfl
 have htl:cc<s.tabs.length:=by rw[hi.lt];exact hcl
 have c43:=ht.c 43 _ rfl;have HT:Hid _:=ht;have HI:Hid s.Inv:=hi;clear ht hi;rcases(show what=0∨what=3∨¬(what=0∨what=3) by omega)with rfl|rfl|hw
 ·rw[show s.eD 0= {s with tabs:=s.tabs.set s.col.toNat false} from rfl,hcn];have HT0:a_ ({w with drawn:=w.drawn+1}:World) L s:=HT.o.sm ((Ch.refl _ _).drewN 1);have HH:World.cell? ({w with drawn:=w.drawn+1}:World) ⟨L.tb,43,none⟩=some (.slice (some ⟨L.gb,0,none⟩) s.aa s.aa)∧World.cell? ({w with drawn:=w.drawn+1}:World) ⟨L.tb,27,none⟩=some (.int .i64 (cc:Int)):=⟨HT0.c 43 _ rfl,by rw[←hcc];exact HT0.c 27 _ rfl⟩;go_enter func190,ntmps190;go_wp2_with fail;refine fJ (S:=fun x=>x.cell? ⟨L.tb,43,none⟩=some (.slice (some ⟨L.gb,0,none⟩) s.aa s.aa)∧x.cell? ⟨L.tb,27,none⟩=some (.int .i64 (cc:Int))) bI ?_;refine aL 0 1 2 3 HH ?_;simp only[ah,ag];refine aL 4 5 6 7 HH ?_;simp only[ah,ag];refine g_ 8 9 HH ?_;refine ak 10 HH ?_ (v:=.pointer (some ⟨L.gb,cc,none⟩));simp only[ah,ag];refine aD 11 ?_;refine ni 4 tJ (.tmp 17) _ rfl rfl L.gb cc (s.tabs.map Value.bool) ((s.tabs.set cc false).map Value.bool) (.bool false) (by rw[List.length_map];exact htl) rfl rfl rfl rfl (by rw[List.map_set]) 4 HT0.tab ?_;intro u3 g3 k3;have T3:=HT0.Da g3 k3;refine⟨⟨T3.c 43 _ rfl,by rw[←hcc];exact T3.c 27 _ rfl⟩,?_⟩;refine aM ?_;have HF:Hid (a_ u3 L {s with tabs:=s.tabs.set cc false}∧Ch L.own w u3):=⟨T3,(⟨k3.os,k3.tape,k3.output,k3.size,k3.block⟩:Ch (· =L.gb) w u3).mono fun k _ e=>.inr (.inr (.inr (.inl e)))⟩;clear T3 k3 g3 HT0 HH;go_wp2_with fail;go_end0;exact⟨rfl,HF.o.1,HF.o.2⟩
 ·rw[show s.eD 3= {s with tabs:=List.replicate s.tabs.length false} from rfl];go_enter func190,ntmps190;go_wp2_with (refine MR rfl (.tmp 23) rfl rfl L s rfl HT.o HI.o ?_);intro u' t' c';go_wp2_with fail;go_end0;exact⟨rfl,t',c'⟩
 ·have e:s.eD what=s:=by unfold TS.eD;simp only[aG (show¬what=0 by omega),aG (show¬what=3 by omega)]
  rw[e];have b0:(what==0)=false:=by simp;omega
  have b1:(what==3)=false:=by simp;omega
  clear e hw;go_enter func190,ntmps190;go_wp2_with fail;go_end0;exact⟨rfl,HT.o,Ch.refl _ _⟩
theorem BG(on:Bool):∀(l:List Int) (s:TS) (x:Int),s.sets on (l++[x])=(s.sets on l).set1 x on
 | [],_,_=>rfl
 |y::l,s,x=>by show(s.set1 y on).sets on (l++[x])=_;rw[BG on l];rfl
theorem TS.Inv.set1(h:s.Inv)(n:Int)(on:Bool):(s.set1 n on).Inv:=by
 unfold TS.set1;split
 ·exact TS.Inv.home (h.upd rfl rfl rfl rfl rfl rfl rfl h.row0 h.iT h.fU h.gz h.gN h.tb h.bot h.sh)
 ·split
  ·exact h.upd rfl rfl rfl rfl rfl rfl rfl h.row0 h.iT h.fU h.gz h.gN h.tb h.bot h.sh
  ·split
   ·exact h.upd rfl rfl rfl rfl rfl rfl rfl h.row0 h.iT h.fU h.gz h.gN h.tb h.bot (by show(if on then(1:Int)else 0)=0∨(if on then(1:Int)else 0)=1;cases on<;>simp)
   ·exact h
theorem TS.Inv.sets(on:Bool):∀(l:List Int),s.Inv→(s.sets on l).Inv:=by
 intro l;induction l generalizing s with
 |nil=>exact id
 |cons x l ih=>exact fun h=>ih (h.set1 x on)
theorem Kr(L:Lay)(s:TS)(w:World)(ht:a_ w L s)(hi:s.Inv)(on:Bool)(eb eo cap:Nat)(ns:List Int)(hns:ns.length≤16)(hc:∀j x,ns[j]? =some x→w.cell? ⟨eb,eo+j,none⟩=some (.int .i64 x))(hno:¬L.own eb)(hlt:eb<w.heap.size):
 Calls prog 137 #[.pointer (some ⟨L.tb,0,none⟩),.slice (some ⟨eb,eo,none⟩) ns.length cap,.bool on] w fun e w'=>e= .returned (.tuple #[])∧a_ w' L (s.sets on ns)∧Ch L.own w w':=by
 have HT:Hid _:=ht;have HI:Hid s.Inv:=hi;have HC:Hid _:=hc;clear ht hi hc;go_enter func137,ntmps137;go_wp2_with fail;go_loopw [10] (fun i wr=>∃k:Nat,k≤ns.length∧i= .int .i64 k∧a_ wr L (s.sets on (ns.take k))∧Ch L.own w wr) (fun i _=>ns.length-(intOf i).toNat)
 case atStart=>exact⟨0,jy _,rfl,HT.o,Ch.refl _ _⟩
 case round=>
  clear HT;obtain⟨k,hk,rfl,R,C⟩:=hrel;by_cases hlt2:k<ns.length
  ·have ik:(k:Int)<(ns.length:Int):=by omega
   obtain⟨x,hx⟩:∃x,ns[k]? =some x:=⟨_,gK hlt2⟩;have hcell:wr.cell? ⟨eb,eo+k,none⟩=some (.int .i64 x):=(eT (C.block eb hlt hno)).trans (HC.o k x hx);have hts:s.sets on (ns.take (k+1))=(s.sets on (ns.take k)).set1 x on:=by obtain⟨h1,h2⟩:=ja.1 hx;rw[yh h1,h2,BG]
   have Qz:Hid (s.sets on (ns.take k)).Inv:=TS.Inv.sets on _ HI.o;have NF:Hid _:=hts;generalize s.sets on (ns.take k)=t at*;have d28:=R.c 28 _ rfl;have d37:=R.c 37 _ rfl;have d40:=R.c 40 _ rfl;have d42:=R.c 42 _ rfl;have g28:=R.f 28;have g37:=R.f 37;have g40:=R.f 40;have g42:=R.f 42;have HR:Hid _:=R;have oz:Hid _:=C;clear R C hts hx;have vk:IntKind.i64.wrap ((k:Int)+1)=(k:Int)+1:=bV _ (by omega);rcases(show x=6∨x=7∨x=47∨¬(x=6∨x=7∨x=47) by omega)with rfl|rfl|rfl|hx
   ·have l1:=ED L {t with origin:=on} _ (HR.o.set (s':={t with origin:=on}) 37 (.bool on) rfl rfl rfl rfl rfl) (Qz.o.upd rfl rfl rfl rfl rfl rfl rfl Qz.o.row0 Qz.o.iT Qz.o.fU Qz.o.gz Qz.o.gN Qz.o.tb Qz.o.bot Qz.o.sh);go_wp2_with (go_at_call 192;refine l1.mono ?_;rintro e w1 ⟨rfl,h1,c1⟩);go_roundw
    case rel=>exact⟨k+1,by omega,by go_num,by rw[NF.o];exact h1,oz.o.trans (((Ch.refl _ _).jI _ _).trans c1)⟩
    case measure=>simp[intOf];omega
   ·cases hw:t.waits with
    |true=>
     rw[hw]at d28;go_wp2_with fail;go_roundw
     case rel=>exact⟨k+1,by omega,by go_num,by rw[NF.o,show t.set1 7 on= {t with wrap:=on,waits:=t.waits&&on} from rfl,hw,Bool.true_and];exact(HR.o.set (s':={t with wrap:=on}) 40 (.bool on) rfl rfl rfl rfl rfl).set 28 (.bool on) rfl rfl rfl rfl rfl,oz.o.trans (((Ch.refl _ _).jI _ _).jI _ _)⟩
     case measure=>simp[intOf];omega
    |false=>
     rw[hw]at d28;go_wp2_with fail;go_roundw
     case rel=>exact⟨k+1,by omega,by go_num,by rw[NF.o,show t.set1 7 on= {t with wrap:=on,waits:=t.waits&&on} from rfl,hw,Bool.false_and];exact(HR.o.set (s':={t with wrap:=on}) 40 (.bool on) rfl rfl rfl rfl rfl).set 28 (.bool false) rfl rfl rfl rfl rfl,oz.o.trans (((Ch.refl _ _).jI _ _).jI _ _)⟩
     case measure=>simp[intOf];omega
   ·cases on with
    |true=>
     go_wp2_with fail;go_roundw
     case rel=>exact⟨k+1,by omega,by go_num,by rw[NF.o,show t.set1 47 true= {t with shown:=1} from rfl];exact(HR.o.set (s':={t with shown:=0}) 42 (.int .i64 0) rfl rfl rfl rfl rfl).set 42 (.int .i64 1) rfl rfl rfl rfl rfl,oz.o.trans (((Ch.refl _ _).jI _ _).jI _ _)⟩
     case measure=>simp[intOf];omega
    |false=>
     go_wp2_with fail;go_roundw
     case rel=>exact⟨k+1,by omega,by go_num,by rw[NF.o,show t.set1 47 false= {t with shown:=0} from rfl];exact HR.o.set (s':={t with shown:=0}) 42 (.int .i64 0) rfl rfl rfl rfl rfl,oz.o.trans ((Ch.refl _ _).jI _ _)⟩
     case measure=>simp[intOf];omega
   ·have e:t.set1 x on=t:=by unfold TS.set1;simp only[aG (show¬x=6 by omega),aG (show¬x=7 by omega),aG (show¬x=47 by omega)]
    have b1:(x==6)=false:=by simp;omega
    have b2:(x==7)=false:=by simp;omega
    have b3:(x==47)=false:=by simp;omega
    have HE:Hid _:=e;clear e hx;go_wp2_with fail;go_roundw
    case rel=>exact⟨k+1,by omega,by go_num,by rw[NF.o,HE.o];exact HR.o,oz.o⟩
    case measure=>simp[intOf];omega
  ·have hkn:k=ns.length:=by omega
   subst hkn;rw[List.take_length]at R;have HR:Hid _:=R;have oz:Hid _:=C;clear R C;go_wp2_with fail;go_end0;exact⟨rfl,HR.o,oz.o⟩
theorem zO:∀(l:List Int) (s:TS) (x:Int),s.turns (l++[x])=({(s.turns l)with pen:=TS.turn (s.turns l).pen (TS.amount x)}:TS)
 | [],_,_=>rfl
 |y::l,s,x=>by show({s with pen:=TS.turn s.pen (TS.amount y)}:TS).turns (l++[x])=_;rw[zO l];rfl
theorem TS.Inv.turns:∀(l:List Int),s.Inv→(s.turns l).Inv:=by
 intro l;induction l generalizing s with
 |nil=>exact id
 |cons x l ih=>exact fun h=>ih (h.upd rfl rfl rfl rfl rfl rfl rfl h.row0 h.iT h.fU h.gz h.gN h.tb h.bot h.sh)
theorem E5(p:fO):∀v∈iR p,v.oneCell'=true:=by intro v hv;simp only[iR,di,eU,eX]at hv;rcases hv with rfl|rfl|rfl|rfl|rfl<;>rfl
theorem zS{o:Oper}{l:List Value}{ds:List Deferred}{K:Act→World→Prop}(d:Nat)(x:Operand)(ho:o.op= .load 102 x)(hd:o.dst=some d)(b j:Nat)(p:fO)(hx:Act.eval ⟨l.toArray,ds⟩ x= .pointer (some ⟨b,j,none⟩))(hc:u.rangeAt b j (iR p))(h:K ⟨(l.set d (.agg (gI p))).toArray,ds⟩ u):Oper.wp prog o ⟨l.toArray,ds⟩ u K Q:=by
 refine wp_load_mid 102 x ho b j hx (iR p) _ hc underlying102 rfl iP ?_;rw[hd];simpa[Act.put,gI]using h
theorem GM(L:Lay)(s:TS)(w:World)(ht:a_ w L s)(hi:s.Inv)(ev:List Int)(hev:ev.length=21)(ct:Nat)(hct:ev.getD 4 0=(ct:Int))(Y5:ct≤16)(hps:∀x∈ev.drop 5,-1≤x∧x≤65535):
 Calls prog 136 #[.pointer (some ⟨L.tb,0,none⟩),.agg (aO ev)] w fun e w'=>e= .returned (.tuple #[])∧a_ w' L (s.jo (ev.getD 3 0) (ev.drop 5) ct)∧Ch L.own w w':=by
 have HTW:Hid _:=ht;have HT0:=ht.sm ((Ch.refl (fun _=>False) w).alloc (.cells (aO ev) 92));have B_:Hid ((w.alloc (.cells (aO ev) 92)).heap[w.heap.size]? =some (.cells (aO ev) 92 (0,0))):=bJ _ _;have e3:=gT (j:=3) B_.o (by omega);have e4:=gT (j:=4) B_.o (by omega);have e5:=gT (j:=5) B_.o (by omega);have e6:=gT (j:=6) B_.o (by omega);have g0:(ev.drop 5).getD 0 0=ev.getD 5 0:=by simp[List.getD]
 have g1:(ev.drop 5).getD 1 0=ev.getD 6 0:=by simp[List.getD]
 have hb5: -1≤ev.getD 5 0∧ev.getD 5 0≤65535:=by rw[←g0];refine hps _ ?_;simp[List.getD,gK (show 5<ev.length by omega)];exact List.mem_iff_getElem.2 ⟨0,by simp;omega,by simp⟩
 have hb6: -1≤ev.getD 6 0∧ev.getD 6 0≤65535:=by rw[←g1];refine hps _ ?_;simp[List.getD,gK (show 6<ev.length by omega)];exact List.mem_iff_getElem.2 ⟨1,by simp;omega,by simp⟩
 rw[hct]at e4;have jA:Hid (Ch L.own w (w.alloc (.cells (aO ev) 92))):=(Ch.refl _ _).alloc _;have AR:Hid (¬L.own w.heap.size):=fun h=>by have:=ht.jv h;omega
 have DF:Hid (w.heap.size<(w.alloc (.cells (aO ev) 92)).heap.size):=by show _<_;simp
 have hlt:=ht.lt;have hX:s.jo (ev.getD 3 0) (ev.drop 5) ct=if ev.getD 3 0=114 then s.fH (TS.times (ev.getD 5 0)-1) (TS.amount (ev.getD 6 0)-1)else if ev.getD 3 0=103 then s.eD (TS.amount (ev.getD 5 0))else if ev.getD 3 0=109 then s.turns ((ev.drop 5).take ct)
  else if ev.getD 3 0=104∨ev.getD 3 0=108 then(if ev.getD 5 0=4 then{s with insert:=decide (ev.getD 3 0=104)} else s)else s:=by unfold TS.jo;rw[g0,g1]
 generalize s.jo (ev.getD 3 0) (ev.drop 5) ct=X at*;generalize ev.getD 3 0=f at*;generalize ev.getD 5 0=p0 at*;generalize ev.getD 6 0=p1 at*;have HI:Hid s.Inv:=hi;have HT:Hid _:=HT0;have ht0:1≤TS.times p0∧TS.times p0≤65535:=by unfold TS.times;omega
 have ha1:0≤TS.amount p1∧TS.amount p1≤65535:=by unfold TS.amount;omega
 clear ht hi HT0 g0 g1;rcases(show f=114∨f=103∨f=109∨f=104∨f=108∨¬(f=114∨f=103∨f=109∨f=104∨f=108) by omega)with rfl|rfl|rfl|rfl|rfl|hf
 ·have HX:Hid _:=hX;have v1:IntKind.i64.wrap (TS.times p0-1)=TS.times p0-1:=bV _ (by omega);have v2:IntKind.i64.wrap (TS.amount p1-1)=TS.amount p1-1:=bV _ (by omega);clear hX;go_enter func136,ntmps136;go_wp2_with fail;generalize hW:w.alloc (Obj.cells (aO ev) 92)=W at*;generalize hlb:w.heap.size=lb at*;have HT1:a_ ({W with drawn:=W.drawn+1}:World) L s:=HT.o.sm ((Ch.refl _ _).drewN 1);have HH:World.cell? ({W with drawn:=W.drawn+1}:World) ⟨lb,5,none⟩=some (.int .i64 p0)∧World.cell? ({W with drawn:=W.drawn+1}:World) ⟨lb,6,none⟩=some (.int .i64 p1):=⟨e5,e6⟩;refine fJ (S:=fun x=>x.cell? ⟨lb,5,none⟩=some (.int .i64 p0)∧x.cell? ⟨lb,6,none⟩=some (.int .i64 p1)) bI ?_;refine g_ 0 1 HH ?_;refine ak 2 HH ?_ (v:=.pointer (some ⟨lb,5,none⟩));refine ak 3 HH ?_;simp only[ah,ag];refine ak 6 HH ?_;refine ak 7 HH ?_ (v:=.pointer (some ⟨lb,6,none⟩));refine ak 8 HH ?_;simp only[ah,ag];refine aD 4 ?_;refine d_ (vs:=[.int .i64 p0]) (dY _ _) ?_;rintro v2 w9 ⟨rfl,rfl⟩;refine⟨HH,?_⟩;simp only[ah,ag];refine ak 5 HH ?_ (v:=.int .i64 (TS.times p0-1));simp only[ah,ag];refine aD 9 ?_;refine d_ (vs:=[.int .i64 p1]) (dw _ _) ?_;rintro v2 w9 ⟨rfl,rfl⟩;refine⟨HH,?_⟩;simp only[ah,ag];refine ak 10 HH ?_ (v:=.int .i64 (TS.amount p1-1));simp only[ah,ag];refine aD 11 ?_;refine bR (vs:=[.pointer (some ⟨L.tb,0,none⟩),.int .i64 (TS.times p0-1),.int .i64 (TS.amount p1-1)]) (R:=fun v w'=>v= .tuple #[]∧a_ w' L X∧Ch L.own W w') ((Af L s _ HT1 HI.o (TS.times p0-1) (TS.amount p1-1) (by omega)).mono fun e w' h=>⟨_,h.1,rfl,by rw[HX.o];exact h.2.1,⟨h.2.2.os,h.2.2.tape,h.2.2.output,h.2.2.size,h.2.2.block⟩⟩) ?_;rintro v2 w9 ⟨rfl,t9,c9⟩;refine⟨⟨(eT (c9.block lb DF.o AR.o)).trans e5,(eT (c9.block lb DF.o AR.o)).trans e6⟩,?_⟩;simp only[ah,ag];refine aM ?_;have HF:Hid (a_ w9 L X∧Ch L.own w w9):=⟨t9,jA.o.trans c9⟩;clear t9 c9 HT1 HH;go_wp2_with fail;go_end0;exact⟨rfl,HF.o.1,HF.o.2⟩
 ·have HX:Hid _:=hX;clear hX;have l1:=zX L s _ HT.o HI.o (TS.amount p0);go_enter func136,ntmps136;go_wp2_with (first|(go_at_call 181;refine(dw p0 _).mono ?_;rintro e w1 ⟨rfl,hw1⟩;have hw2:=hw1.symm;subst hw2)|(go_at_call 190;refine l1.mono ?_;rintro e w2 ⟨rfl,h2,c2⟩));go_end0;exact⟨rfl,by rw[HX.o];exact h2,jA.o.trans c2⟩
 ·have HX:Hid _:=hX;clear hX;have i1:(ct:Int)≤16:=by omega
  have hlen:((ev.drop 5).take ct).length=ct:=by rw[jJ,wR];omega
  have hcs:∀j x,((ev.drop 5).take ct)[j]? =some x→(w.alloc (.cells (aO ev) 92)).cell? ⟨w.heap.size,5+j,none⟩=some (.int .i64 x):=fun j x hx=>by
   rw[qA]at hx;split at hx
   ·rw[qC]at hx;have:=gT (j:=5+j) B_.o (ja.1 hx).1;rw[this];simp[List.getD,hx]
   ·cases hx
  have hbs:∀x∈(ev.drop 5).take ct,0≤TS.amount x∧TS.amount x≤70000:=fun x hx=>by have:=hps x (DR hx);unfold TS.amount;omega
  generalize (ev.drop 5).take ct=ns at*;have HCS:Hid _:=hcs;have HBS:Hid _:=hbs;clear hcs hbs hps;go_enter func136,ntmps136;go_wp2_with fail;generalize hW:w.alloc (Obj.cells (aO ev) 92)=W at*;generalize hlb:w.heap.size=lb at*;go_loopw [37] (fun i wr=>∃k:Nat,k≤ct∧i= .int .i64 k∧a_ wr L (s.turns (ns.take k))∧Ch L.own W wr) (fun i _=>ct-(intOf i).toNat)
  case atStart=>exact⟨0,jy _,rfl,HT.o,Ch.refl _ _⟩
  case round=>
   obtain⟨k,hk,rfl,R,C⟩:=hrel;by_cases hlt2:k<ct
   ·have ik:(k:Int)<(ct:Int):=by omega
    obtain⟨x,hx⟩:∃x,ns[k]? =some x:=⟨_,gK (by omega)⟩;have hcell:wr.cell? ⟨lb,5+k,none⟩=some (.int .i64 x):=(eT (C.block lb DF.o AR.o)).trans (HCS.o k x hx);have hxa:=HBS.o x (fu hx);have hts:s.turns (ns.take (k+1))=({(s.turns (ns.take k))with pen:=TS.turn (s.turns (ns.take k)).pen (TS.amount x)}:TS):=by obtain⟨h1,h2⟩:=ja.1 hx;rw[yh h1,h2,zO]
    have NF:Hid _:=hts;generalize s.turns (ns.take k)=t at*;have HR:Hid _:=R;have oz:Hid _:=C;clear R C hts hx;have vk:IntKind.i64.wrap ((k:Int)+1)=(k:Int)+1:=bV _ (by omega);go_wp2_with fail;have RG:World.rangeAt ({wr with drawn:=wr.drawn+1}:World) L.tb 29 (iR t.pen):=(HR.o.sm ((Ch.refl _ _).drewN 1)).range' 29 _ rfl;refine fJ (S:=fun _=>True) bI ?_;refine aL 0 1 2 3 trivial ?_;simp only[ah,ag];refine iC 4 5 7 trivial ?_;simp only[ah,ag];refine OA 6 8 ?_ ?_
    ·refine gW ?_;refine zS 47 (.tmp 46) rfl rfl L.tb 29 t.pen rfl (RG) ?_;refine⟨trivial,?_⟩;simp only[ah,ag];refine aD 8 ?_;refine d_ (vs:=[.int .i64 x]) (dw _ _) ?_;rintro v2 w9 ⟨rfl,rfl⟩;refine⟨trivial,?_⟩;simp only[ah,ag];refine aD 9 ?_;refine bR (vs:=[.agg (gI t.pen),.int .i64 (TS.amount x)]) (R:=fun v w'=>v= .agg (gI (TS.turn t.pen (TS.amount x)))∧Sm wr w') ((Gb t.pen (TS.amount x) _ hxa).mono fun e w' h=>⟨_,h.1,rfl,⟨h.2.os,h.2.tape,h.2.output,h.2.size,fun k hk _=>h.2.block k hk⟩⟩) ?_;rintro v2 w8 ⟨rfl,VJ⟩;refine⟨trivial,?_⟩;simp only[ah,ag];refine aL 10 11 12 13 trivial ?_;simp only[ah,ag];refine aD 14 ?_;refine nk 102 (.tmp 54) (.tmp 50) rfl rfl L t {t with pen:=TS.turn t.pen (TS.amount x)} 29 (iR (TS.turn t.pen (TS.amount x))) iP rfl rfl (E5 _) (HR.o.sm VJ) (by show 29+5≤44;omega) rfl rfl rfl rfl rfl ?_;intro u7 t7 c7 _;refine⟨trivial,?_⟩;refine aM ?_;have HF:Hid (a_ u7 L {t with pen:=TS.turn t.pen (TS.amount x)}∧Ch L.own W u7):=⟨t7,oz.o.trans ((Sm.ch VJ).trans c7)⟩;clear t7 c7 VJ HR oz;go_wp2_with fail;go_roundw
     case rel=>exact⟨k+1,by omega,by go_num,by rw[NF.o];exact HF.o.1,HF.o.2⟩
     case measure=>simp[intOf];omega
    ·refine gW ?_;refine d_ (vs:=[.int .i64 x]) (dw _ _) ?_;rintro v2 w9 ⟨rfl,rfl⟩;refine⟨trivial,?_⟩;simp only[ah,ag];refine aD 6 ?_;refine zS 47 (.tmp 46) rfl rfl L.tb 29 t.pen rfl (RG) ?_;refine⟨trivial,?_⟩;simp only[ah,ag];refine aD 9 ?_;refine bR (vs:=[.agg (gI t.pen),.int .i64 (TS.amount x)]) (R:=fun v w'=>v= .agg (gI (TS.turn t.pen (TS.amount x)))∧Sm wr w') ((Gb t.pen (TS.amount x) _ hxa).mono fun e w' h=>⟨_,h.1,rfl,⟨h.2.os,h.2.tape,h.2.output,h.2.size,fun k hk _=>h.2.block k hk⟩⟩) ?_;rintro v2 w8 ⟨rfl,VJ⟩;refine⟨trivial,?_⟩;simp only[ah,ag];refine aL 10 11 12 13 trivial ?_;simp only[ah,ag];refine aD 14 ?_;refine nk 102 (.tmp 54) (.tmp 50) rfl rfl L t {t with pen:=TS.turn t.pen (TS.amount x)} 29 (iR (TS.turn t.pen (TS.amount x))) iP rfl rfl (E5 _) (HR.o.sm VJ) (by show 29+5≤44;omega) rfl rfl rfl rfl rfl ?_;intro u7 t7 c7 _;refine⟨trivial,?_⟩;refine aM ?_;have HF:Hid (a_ u7 L {t with pen:=TS.turn t.pen (TS.amount x)}∧Ch L.own W u7):=⟨t7,oz.o.trans ((Sm.ch VJ).trans c7)⟩;clear t7 c7 VJ HR oz;go_wp2_with fail;go_roundw
     case rel=>exact⟨k+1,by omega,by go_num,by rw[NF.o];exact HF.o.1,HF.o.2⟩
     case measure=>simp[intOf];omega
   ·have hkn:k=ct:=by omega
    have hnt:ns.take k=ns:=sG (by omega);rw[hnt]at R;subst hkn;have HR:Hid _:=R;have oz:Hid (Ch L.own w wr):=jA.o.trans C;clear R C;go_wp2_with fail;go_end0;exact⟨rfl,by rw[HX.o];exact HR.o,oz.o⟩
 ·have HX:Hid (X=if p0=4 then{s with insert:=true} else s):=by show X=_;rw[hX];rfl
  have d41:=HT.o.c 41 _ rfl;have g41:=HT.o.f 41;clear hX;by_cases hp:p0=4
  ·rw[aS hp]at HX;have bp:(p0==4)=true:=by simp[hp]
   clear hp;go_enter func136,ntmps136;go_wp2_with fail;go_end0;exact⟨rfl,by rw[HX.o];exact(HTW.o.set (s':={s with insert:=true}) 41 (.bool true) rfl rfl rfl rfl rfl).sm ((Ch.refl _ _).alloc _),((Ch.refl _ _).jI _ _).alloc _⟩
  ·rw[aG hp]at HX;have bp:(p0==4)=false:=by simp[hp]
   clear hp;go_enter func136,ntmps136;go_wp2_with fail;go_end0;exact⟨rfl,by rw[HX.o];exact HT.o,jA.o⟩
 ·have HX:Hid (X=if p0=4 then{s with insert:=false} else s):=by show X=_;rw[hX];rfl
  have d41:=HT.o.c 41 _ rfl;have g41:=HT.o.f 41;clear hX;by_cases hp:p0=4
  ·rw[aS hp]at HX;have bp:(p0==4)=true:=by simp[hp]
   clear hp;go_enter func136,ntmps136;go_wp2_with fail;go_end0;exact⟨rfl,by rw[HX.o];exact(HTW.o.set (s':={s with insert:=false}) 41 (.bool false) rfl rfl rfl rfl rfl).sm ((Ch.refl _ _).alloc _),((Ch.refl _ _).jI _ _).alloc _⟩
  ·rw[aG hp]at HX;have bp:(p0==4)=false:=by simp[hp]
   clear hp;go_enter func136,ntmps136;go_wp2_with fail;go_end0;exact⟨rfl,by rw[HX.o];exact HT.o,jA.o⟩
 ·rw[aG (by omega),aG (by omega),aG (by omega),aG (by omega)]at hX;have HX:Hid _:=hX;have b1:(f==114)=false:=by simp;omega
  have b2:(f==103)=false:=by simp;omega
  have b3:(f==109)=false:=by simp;omega
  have b4:(f==104)=false:=by simp;omega
  have b5:(f==108)=false:=by simp;omega
  clear hX hf;go_enter func136,ntmps136;go_wp2_with fail;go_end0;exact⟨rfl,by rw[HX.o];exact HT.o,jA.o⟩
end Go.Proofs.YtheibfffilomcabGreatDoor
