import Derived.Test.YtheibfffilomcaaGreatDoorTmaU
import Derived.Test.YtheibfffilomcaaGreatDoorTsU
set_option linter.all false
set_option maxRecDepth 100000
set_option maxHeartbeats 2000000
namespace Go.Proofs.YtheibfffilomcaaGreatDoor
open Go.RowKit Go.Proofs.Tryz
variable {s:TS} {u:World} {Q:Exit→Act→World→Prop}
theorem ac_(u:World):(zeroValue 4).run prog u= .ok (.bool false) u:=by kernel_rfl
theorem Y8(n:Nat):(Builtin.zeroCells #[Value.bool false] n).toList=List.replicate n (Value.bool false):=by
 apply List.ext_getElem?;intro i;simp only[Builtin.zeroCells,Array.getElem?_toList,Array.getElem?_map,Array.getElem?_range,CW];by_cases h:i<n
 ·rw[ak (by simpa using h),ak h];simp[Nat.mod_one]
 ·rw[ai (by simpa using h),ai h];rfl
theorem OG{ops:Array Oper}{rest:List Oper}{o:Oper}{a:Act}(hgd:o.guard=none)(x:Operand)(ho:o.op= .call {callee:=.builtin .clear,args:=#[x],argTypes:=#[162]})(hd:o.dst=none)(L:Lay)(s:TS)(hx:a.eval x= .slice (some ⟨L.gb,0,none⟩) s.ah s.ah)(ht:cO u L s)(hi:s.Inv)(h:∀u',cO u' L {s with tabs:=List.replicate s.tabs.length false}→Ch L.own u u'→wpList prog ops Q rest a u'):wpList prog ops Q (o::rest) a u:=by
 have hlen:(s.tabs.map Value.bool).length=s.ah:=by rw[List.length_map];exact hi.lt
 have hst:=run_storeCells_cells (P:=prog) L.gb 0 (List.replicate s.ah (.bool false)) 0 u (fun i hj=>by rw[kJ]at hj;rw[bG _ _ _ _ _ _ ht.tab];simp[hi.lt,hj]) (fun i _=>oh _ _ _ _ _ ht.tab) (fun v hv=>by rw[AJ hv];rfl);have hz:=size_setCells L.gb (List.replicate s.ah (.bool false)) 0 u;have hb:=nO (vs:=List.replicate s.ah (Value.bool false)) (o:=0) ht.tab (by rw[hlen,kJ];omega);rw[List.take_zero,mP,qB (by rw[hlen,kJ];omega),gp]at hb;have k:Ch (· =L.gb) u (u.setCells L.gb 0 (List.replicate s.ah (.bool false))):=⟨hz.2.1,hz.2.2.1,hz.2.2.2,by omega,fun i _ hn=>iR L.gb _ _ _ i hn⟩;have T:=ht.Fu (tabs:=List.replicate s.tabs.length false) (by rw[List.map_replicate,hi.lt];exact hb) k;refine oq hgd fun K hK=>?_;have R:=hK _ _ (h _ T (k.mono fun j _ e=>.inr (.inr (.inr (.inl e)))));have hc1:=hi.c1;obtain⟨m,hm⟩:∃m,s.ah=m+1:=⟨s.ah-1,by omega⟩;have hrun:(Builtin.clear_ #[162] o.type #[.slice (some ⟨L.gb,0,none⟩) s.ah s.ah]).run prog u= .ok (.tuple #[]) (u.setCells L.gb 0 (List.replicate s.ah (.bool false))):=by rw[hm]at hst ⊢;have hzc:(Value.bool false).cells= #[.bool false]:=rfl;simp only[Builtin.clear_,jV,run_underlying underlying162,jU,CZ,List.getElem?_cons_zero,ac_,hzc,Y8];rw[uw]at hst;rw[hst];rfl
 unfold Oper.wp;simp[execOp,ho,resolve,invoke,builtin,hx,hrun,Result.andThen,Oper.upon_value,Act.put,hd];simpa[Act.put]using R
theorem TS.Inv.Fv(h:s.Inv)(t:List Bool)(ht:t.length=s.ah):({s with tabs:=t}:TS).Inv:=
 ⟨h.r1,h.r2,h.c1,h.c2,h.row0,h.jK,h.jA,h.jD,h.iO,h.tb,h.bot,h.sh,h.l0,h.l1,ht,h.Y4,h.Y3,h.Y6,h.Y5⟩
theorem TS.Inv.fM(h:s.Inv)(what:Int):(s.fM what).Inv:=by
 unfold TS.fM;split
 ·exact h.Fv _ (by rw[lG];exact h.lt)
 ·split
  ·exact h.Fv _ (by rw[kJ];exact h.lt)
  ·exact h
theorem CB(L:Lay)(s:TS)(w:World)(ht:cO w L s)(hi:s.Inv)(what:Int):Calls prog 192 #[.pointer (some ⟨L.tb,0,none⟩),.int .i64 what] w fun e w'=>e= .returned (.tuple #[])∧cO w' L (s.fM what)∧Ch L.own w w':=by
 obtain⟨cc,hcc⟩:∃cc:Nat,s.col=(cc:Int):=⟨s.col.toNat,by have:=hi.jA;omega⟩;have hcl:cc<s.ah:=by have:=hi.jD;omega
 have hcl':(cc:Int)<(s.ah:Int):=by omega
 have hcn:s.col.toNat=cc:=by rw[hcc];rfl
 have htl:cc<s.tabs.length:=by rw[hi.lt];exact hcl
 have c43:=ht.c 43 _ rfl;have HT:Hid _:=ht;have HI:Hid s.Inv:=hi;clear ht hi;rcases(show what=0∨what=3∨¬(what=0∨what=3) by omega)with rfl|rfl|hw
 ·rw[show s.fM 0= {s with tabs:=s.tabs.set s.col.toNat false} from rfl,hcn];have HT0:cO ({w with drawn:=w.drawn+1}:World) L s:=HT.o.sm ((Ch.refl _ _).drewN 1);have HH:World.cell? ({w with drawn:=w.drawn+1}:World) ⟨L.tb,43,none⟩=some (.slice (some ⟨L.gb,0,none⟩) s.ah s.ah)∧World.cell? ({w with drawn:=w.drawn+1}:World) ⟨L.tb,27,none⟩=some (.int .i64 (cc:Int)):=⟨HT0.c 43 _ rfl,by rw[←hcc];exact HT0.c 27 _ rfl⟩;go_enter func192,ntmps192;go_wp2_with fail;refine dX (S:=fun x=>x.cell? ⟨L.tb,43,none⟩=some (.slice (some ⟨L.gb,0,none⟩) s.ah s.ah)∧x.cell? ⟨L.tb,27,none⟩=some (.int .i64 (cc:Int))) aX ?_;refine ay 0 1 2 3 HH ?_;simp only[ag,af];refine ay 4 5 6 7 HH ?_;simp only[ag,af];refine dW 8 9 HH ?_;refine aj 10 HH ?_ (v:=.pointer (some ⟨L.gb,cc,none⟩));simp only[ag,af];refine av 11 ?_;refine mh 4 xA (.tmp 17) _ rfl rfl L.gb cc (s.tabs.map Value.bool) ((s.tabs.set cc false).map Value.bool) (.bool false) (by rw[List.length_map];exact htl) rfl rfl rfl rfl (by rw[List.map_set]) 4 HT0.tab ?_;intro u3 g3 k3;have T3:=HT0.Fu g3 k3;refine⟨⟨T3.c 43 _ rfl,by rw[←hcc];exact T3.c 27 _ rfl⟩,?_⟩;refine aC ?_;have HF:Hid (cO u3 L {s with tabs:=s.tabs.set cc false}∧Ch L.own w u3):=⟨T3,(⟨k3.os,k3.tape,k3.output,k3.size,k3.block⟩:Ch (· =L.gb) w u3).mono fun k _ e=>.inr (.inr (.inr (.inl e)))⟩;clear T3 k3 g3 HT0 HH;go_wp2_with fail;go_end0;exact⟨rfl,HF.o.1,HF.o.2⟩
 ·rw[show s.fM 3= {s with tabs:=List.replicate s.tabs.length false} from rfl];go_enter func192,ntmps192;go_wp2_with (refine OG rfl (.tmp 23) rfl rfl L s rfl HT.o HI.o ?_);intro u' t' c';go_wp2_with fail;go_end0;exact⟨rfl,t',c'⟩
 ·have e:s.fM what=s:=by unfold TS.fM;simp only[ai (show¬what=0 by omega),ai (show¬what=3 by omega)]
  rw[e];have b0:(what==0)=false:=by simp;omega
  have b1:(what==3)=false:=by simp;omega
  clear e hw;go_enter func192,ntmps192;go_wp2_with fail;go_end0;exact⟨rfl,HT.o,Ch.refl _ _⟩
theorem D9(on:Bool):∀(l:List Int) (s:TS) (x:Int),s.sets on (l++[x])=(s.sets on l).set1 x on
 | [],_,_=>rfl
 |y::l,s,x=>by show(s.set1 y on).sets on (l++[x])=_;rw[D9 on l];rfl
theorem TS.Inv.set1(h:s.Inv)(n:Int)(on:Bool):(s.set1 n on).Inv:=by
 unfold TS.set1;split
 ·exact TS.Inv.home (h.upd rfl rfl rfl rfl rfl rfl rfl h.row0 h.jK h.jA h.jD h.iO h.tb h.bot h.sh)
 ·split
  ·exact h.upd rfl rfl rfl rfl rfl rfl rfl h.row0 h.jK h.jA h.jD h.iO h.tb h.bot h.sh
  ·split
   ·exact h.upd rfl rfl rfl rfl rfl rfl rfl h.row0 h.jK h.jA h.jD h.iO h.tb h.bot (by show(if on then(1:Int)else 0)=0∨(if on then(1:Int)else 0)=1;cases on<;>simp)
   ·exact h
theorem TS.Inv.sets(on:Bool):∀(l:List Int),s.Inv→(s.sets on l).Inv:=by
 intro l;induction l generalizing s with
 |nil=>exact id
 |cons x l ih=>exact fun h=>ih (h.set1 x on)
theorem Mi(L:Lay)(s:TS)(w:World)(ht:cO w L s)(hi:s.Inv)(on:Bool)(eb eo cap:Nat)(ns:List Int)(hns:ns.length≤16)(hc:∀j x,ns[j]? =some x→w.cell? ⟨eb,eo+j,none⟩=some (.int .i64 x))(hno:¬L.own eb)(hlt:eb<w.heap.size):
 Calls prog 114 #[.pointer (some ⟨L.tb,0,none⟩),.slice (some ⟨eb,eo,none⟩) ns.length cap,.bool on] w fun e w'=>e= .returned (.tuple #[])∧cO w' L (s.sets on ns)∧Ch L.own w w':=by
 have HT:Hid _:=ht;have HI:Hid s.Inv:=hi;have HC:Hid _:=hc;clear ht hi hc;go_enter func114,ntmps114;go_wp2_with fail;go_loopw [10] (fun i wr=>∃k:Nat,k≤ns.length∧i= .int .i64 k∧cO wr L (s.sets on (ns.take k))∧Ch L.own w wr) (fun i _=>ns.length-(intOf i).toNat)
 case atStart=>exact⟨0,dx _,rfl,HT.o,Ch.refl _ _⟩
 case round=>
  clear HT;obtain⟨k,hk,rfl,R,C⟩:=hrel;by_cases hlt2:k<ns.length
  ·have ik:(k:Int)<(ns.length:Int):=by omega
   obtain⟨x,hx⟩:∃x,ns[k]? =some x:=⟨_,eG hlt2⟩;have hcell:wr.cell? ⟨eb,eo+k,none⟩=some (.int .i64 x):=(dA (C.block eb hlt hno)).trans (HC.o k x hx);have hts:s.sets on (ns.take (k+1))=(s.sets on (ns.take k)).set1 x on:=by obtain⟨h1,h2⟩:=gJ.1 hx;rw[o7 h1,h2,D9]
   have TG:Hid (s.sets on (ns.take k)).Inv:=TS.Inv.sets on _ HI.o;have Ud:Hid _:=hts;generalize s.sets on (ns.take k)=t at*;have d28:=R.c 28 _ rfl;have d37:=R.c 37 _ rfl;have d40:=R.c 40 _ rfl;have d42:=R.c 42 _ rfl;have g28:=R.f 28;have g37:=R.f 37;have g40:=R.f 40;have g42:=R.f 42;have HR:Hid _:=R;have n_:Hid _:=C;clear R C hts hx;have vk:IntKind.i64.wrap ((k:Int)+1)=(k:Int)+1:=bD _ (by omega);rcases(show x=6∨x=7∨x=47∨¬(x=6∨x=7∨x=47) by omega)with rfl|rfl|rfl|hx
   ·have l1:=G5 L {t with origin:=on} _ (HR.o.set (s':={t with origin:=on}) 37 (.bool on) rfl rfl rfl rfl rfl) (TG.o.upd rfl rfl rfl rfl rfl rfl rfl TG.o.row0 TG.o.jK TG.o.jA TG.o.jD TG.o.iO TG.o.tb TG.o.bot TG.o.sh);go_wp2_with (go_at_call 194;refine l1.mono ?_;rintro e w1 ⟨rfl,h1,c1⟩);go_roundw
    case rel=>exact⟨k+1,by omega,by go_num,by rw[Ud.o];exact h1,n_.o.trans (((Ch.refl _ _).nJ _ _).trans c1)⟩
    case measure=>simp[intOf];omega
   ·cases hw:t.waits with
    |true=>
     rw[hw]at d28;go_wp2_with fail;go_roundw
     case rel=>exact⟨k+1,by omega,by go_num,by rw[Ud.o,show t.set1 7 on= {t with wrap:=on,waits:=t.waits&&on} from rfl,hw,Bool.true_and];exact(HR.o.set (s':={t with wrap:=on}) 40 (.bool on) rfl rfl rfl rfl rfl).set 28 (.bool on) rfl rfl rfl rfl rfl,n_.o.trans (((Ch.refl _ _).nJ _ _).nJ _ _)⟩
     case measure=>simp[intOf];omega
    |false=>
     rw[hw]at d28;go_wp2_with fail;go_roundw
     case rel=>exact⟨k+1,by omega,by go_num,by rw[Ud.o,show t.set1 7 on= {t with wrap:=on,waits:=t.waits&&on} from rfl,hw,Bool.false_and];exact(HR.o.set (s':={t with wrap:=on}) 40 (.bool on) rfl rfl rfl rfl rfl).set 28 (.bool false) rfl rfl rfl rfl rfl,n_.o.trans (((Ch.refl _ _).nJ _ _).nJ _ _)⟩
     case measure=>simp[intOf];omega
   ·cases on with
    |true=>
     go_wp2_with fail;go_roundw
     case rel=>exact⟨k+1,by omega,by go_num,by rw[Ud.o,show t.set1 47 true= {t with shown:=1} from rfl];exact(HR.o.set (s':={t with shown:=0}) 42 (.int .i64 0) rfl rfl rfl rfl rfl).set 42 (.int .i64 1) rfl rfl rfl rfl rfl,n_.o.trans (((Ch.refl _ _).nJ _ _).nJ _ _)⟩
     case measure=>simp[intOf];omega
    |false=>
     go_wp2_with fail;go_roundw
     case rel=>exact⟨k+1,by omega,by go_num,by rw[Ud.o,show t.set1 47 false= {t with shown:=0} from rfl];exact HR.o.set (s':={t with shown:=0}) 42 (.int .i64 0) rfl rfl rfl rfl rfl,n_.o.trans ((Ch.refl _ _).nJ _ _)⟩
     case measure=>simp[intOf];omega
   ·have e:t.set1 x on=t:=by unfold TS.set1;simp only[ai (show¬x=6 by omega),ai (show¬x=7 by omega),ai (show¬x=47 by omega)]
    have b1:(x==6)=false:=by simp;omega
    have b2:(x==7)=false:=by simp;omega
    have b3:(x==47)=false:=by simp;omega
    have HE:Hid _:=e;clear e hx;go_wp2_with fail;go_roundw
    case rel=>exact⟨k+1,by omega,by go_num,by rw[Ud.o,HE.o];exact HR.o,n_.o⟩
    case measure=>simp[intOf];omega
  ·have hkn:k=ns.length:=by omega
   subst hkn;rw[List.take_length]at R;have HR:Hid _:=R;have n_:Hid _:=C;clear R C;go_wp2_with fail;go_end0;exact⟨rfl,HR.o,n_.o⟩
theorem Cc:∀(l:List Int) (s:TS) (x:Int),s.turns (l++[x])=({(s.turns l)with pen:=TS.turn (s.turns l).pen (TS.amount x)}:TS)
 | [],_,_=>rfl
 |y::l,s,x=>by show({s with pen:=TS.turn s.pen (TS.amount y)}:TS).turns (l++[x])=_;rw[Cc l];rfl
theorem TS.Inv.turns:∀(l:List Int),s.Inv→(s.turns l).Inv:=by
 intro l;induction l generalizing s with
 |nil=>exact id
 |cons x l ih=>exact fun h=>ih (h.upd rfl rfl rfl rfl rfl rfl rfl h.row0 h.jK h.jA h.jD h.iO h.tb h.bot h.sh)
theorem jq(p:fO):∀v∈dG p,v.oneCell'=true:=by intro v hv;simp only[dG,kK,pX,pY]at hv;rcases hv with rfl|rfl|rfl|rfl|rfl<;>rfl
theorem uq{o:Oper}{l:List Value}{ds:List Deferred}{K:Act→World→Prop}(d:Nat)(x:Operand)(ho:o.op= .load 80 x)(hd:o.dst=some d)(b j:Nat)(p:fO)(hx:Act.eval ⟨l.toArray,ds⟩ x= .pointer (some ⟨b,j,none⟩))(hc:u.rangeAt b j (dG p))(h:K ⟨(l.set d (.agg (aW p))).toArray,ds⟩ u):Oper.wp prog o ⟨l.toArray,ds⟩ u K Q:=by
 refine wp_load_mid 80 x ho b j hx (dG p) _ hc underlying80 rfl lU ?_;rw[hd];simpa[Act.put,aW]using h
theorem Jv(L:Lay)(s:TS)(w:World)(ht:cO w L s)(hi:s.Inv)(ev:List Int)(hev:ev.length=21)(ct:Nat)(hct:ev.getD 4 0=(ct:Int))(abZ:ct≤16)(hps:∀x∈ev.drop 5,-1≤x∧x≤65535):
 Calls prog 113 #[.pointer (some ⟨L.tb,0,none⟩),.agg (aA ev)] w fun e w'=>e= .returned (.tuple #[])∧cO w' L (s.kC (ev.getD 3 0) (ev.drop 5) ct)∧Ch L.own w w':=by
 have HTW:Hid _:=ht;have HT0:=ht.sm ((Ch.refl (fun _=>False) w).alloc (.cells (aA ev) 46));have Em:Hid ((w.alloc (.cells (aA ev) 46)).heap[w.heap.size]? =some (.cells (aA ev) 46 (0,0))):=bV _ _;have e3:=kD (j:=3) Em.o (by omega);have e4:=kD (j:=4) Em.o (by omega);have e5:=kD (j:=5) Em.o (by omega);have e6:=kD (j:=6) Em.o (by omega);have g0:(ev.drop 5).getD 0 0=ev.getD 5 0:=by simp[List.getD]
 have g1:(ev.drop 5).getD 1 0=ev.getD 6 0:=by simp[List.getD]
 have hb5: -1≤ev.getD 5 0∧ev.getD 5 0≤65535:=by rw[←g0];refine hps _ ?_;simp[List.getD,eG (show 5<ev.length by omega)];exact List.mem_iff_getElem.2 ⟨0,by simp;omega,by simp⟩
 have hb6: -1≤ev.getD 6 0∧ev.getD 6 0≤65535:=by rw[←g1];refine hps _ ?_;simp[List.getD,eG (show 6<ev.length by omega)];exact List.mem_iff_getElem.2 ⟨1,by simp;omega,by simp⟩
 rw[hct]at e4;have ng:Hid (Ch L.own w (w.alloc (.cells (aA ev) 46))):=(Ch.refl _ _).alloc _;have Di:Hid (¬L.own w.heap.size):=fun h=>by have:=ht.pQ h;omega
 have FP:Hid (w.heap.size<(w.alloc (.cells (aA ev) 46)).heap.size):=by show _<_;simp
 have hlt:=ht.lt;have hX:s.kC (ev.getD 3 0) (ev.drop 5) ct=if ev.getD 3 0=114 then s.gU (TS.times (ev.getD 5 0)-1) (TS.amount (ev.getD 6 0)-1)else if ev.getD 3 0=103 then s.fM (TS.amount (ev.getD 5 0))else if ev.getD 3 0=109 then s.turns ((ev.drop 5).take ct)
  else if ev.getD 3 0=104∨ev.getD 3 0=108 then(if ev.getD 5 0=4 then{s with insert:=decide (ev.getD 3 0=104)} else s)else s:=by unfold TS.kC;rw[g0,g1]
 generalize s.kC (ev.getD 3 0) (ev.drop 5) ct=X at*;generalize ev.getD 3 0=f at*;generalize ev.getD 5 0=p0 at*;generalize ev.getD 6 0=p1 at*;have HI:Hid s.Inv:=hi;have HT:Hid _:=HT0;have ht0:1≤TS.times p0∧TS.times p0≤65535:=by unfold TS.times;omega
 have ha1:0≤TS.amount p1∧TS.amount p1≤65535:=by unfold TS.amount;omega
 clear ht hi HT0 g0 g1;rcases(show f=114∨f=103∨f=109∨f=104∨f=108∨¬(f=114∨f=103∨f=109∨f=104∨f=108) by omega)with rfl|rfl|rfl|rfl|rfl|hf
 ·have HX:Hid _:=hX;have v1:IntKind.i64.wrap (TS.times p0-1)=TS.times p0-1:=bD _ (by omega);have v2:IntKind.i64.wrap (TS.amount p1-1)=TS.amount p1-1:=bD _ (by omega);clear hX;go_enter func113,ntmps113;go_wp2_with fail;generalize hW:w.alloc (Obj.cells (aA ev) 46)=W at*;generalize hlb:w.heap.size=lb at*;have HT1:cO ({W with drawn:=W.drawn+1}:World) L s:=HT.o.sm ((Ch.refl _ _).drewN 1);have HH:World.cell? ({W with drawn:=W.drawn+1}:World) ⟨lb,5,none⟩=some (.int .i64 p0)∧World.cell? ({W with drawn:=W.drawn+1}:World) ⟨lb,6,none⟩=some (.int .i64 p1):=⟨e5,e6⟩;refine dX (S:=fun x=>x.cell? ⟨lb,5,none⟩=some (.int .i64 p0)∧x.cell? ⟨lb,6,none⟩=some (.int .i64 p1)) aX ?_;refine dW 0 1 HH ?_;refine aj 2 HH ?_ (v:=.pointer (some ⟨lb,5,none⟩));refine aj 3 HH ?_;simp only[ag,af];refine aj 6 HH ?_;refine aj 7 HH ?_ (v:=.pointer (some ⟨lb,6,none⟩));refine aj 8 HH ?_;simp only[ag,af];refine av 4 ?_;refine dN (vs:=[.int .i64 p0]) (iA _ _) ?_;rintro v2 w9 ⟨rfl,rfl⟩;refine⟨HH,?_⟩;simp only[ag,af];refine aj 5 HH ?_ (v:=.int .i64 (TS.times p0-1));simp only[ag,af];refine av 9 ?_;refine dN (vs:=[.int .i64 p1]) (fQ _ _) ?_;rintro v2 w9 ⟨rfl,rfl⟩;refine⟨HH,?_⟩;simp only[ag,af];refine aj 10 HH ?_ (v:=.int .i64 (TS.amount p1-1));simp only[ag,af];refine av 11 ?_;refine a_ (vs:=[.pointer (some ⟨L.tb,0,none⟩),.int .i64 (TS.times p0-1),.int .i64 (TS.amount p1-1)]) (R:=fun v w'=>v= .tuple #[]∧cO w' L X∧Ch L.own W w') ((CK L s _ HT1 HI.o (TS.times p0-1) (TS.amount p1-1) (by omega)).mono fun e w' h=>⟨_,h.1,rfl,by rw[HX.o];exact h.2.1,⟨h.2.2.os,h.2.2.tape,h.2.2.output,h.2.2.size,h.2.2.block⟩⟩) ?_;rintro v2 w9 ⟨rfl,t9,c9⟩;refine⟨⟨(dA (c9.block lb FP.o Di.o)).trans e5,(dA (c9.block lb FP.o Di.o)).trans e6⟩,?_⟩;simp only[ag,af];refine aC ?_;have HF:Hid (cO w9 L X∧Ch L.own w w9):=⟨t9,ng.o.trans c9⟩;clear t9 c9 HT1 HH;go_wp2_with fail;go_end0;exact⟨rfl,HF.o.1,HF.o.2⟩
 ·have HX:Hid _:=hX;clear hX;have l1:=CB L s _ HT.o HI.o (TS.amount p0);go_enter func113,ntmps113;go_wp2_with (first|(go_at_call 183;refine(fQ p0 _).mono ?_;rintro e w1 ⟨rfl,hw1⟩;have hw2:=hw1.symm;subst hw2)|(go_at_call 192;refine l1.mono ?_;rintro e w2 ⟨rfl,h2,c2⟩));go_end0;exact⟨rfl,by rw[HX.o];exact h2,ng.o.trans c2⟩
 ·have HX:Hid _:=hX;clear hX;have i1:(ct:Int)≤16:=by omega
  have hlen:((ev.drop 5).take ct).length=ct:=by rw[kg,o8];omega
  have hcs:∀j x,((ev.drop 5).take ct)[j]? =some x→(w.alloc (.cells (aA ev) 46)).cell? ⟨w.heap.size,5+j,none⟩=some (.int .i64 x):=fun j x hx=>by
   rw[mJ]at hx;split at hx
   ·rw[rf]at hx;have:=kD (j:=5+j) Em.o (gJ.1 hx).1;rw[this];simp[List.getD,hx]
   ·cases hx
  have hbs:∀x∈(ev.drop 5).take ct,0≤TS.amount x∧TS.amount x≤70000:=fun x hx=>by have:=hps x (AL hx);unfold TS.amount;omega
  generalize (ev.drop 5).take ct=ns at*;have Wz:Hid _:=hcs;have Tv:Hid _:=hbs;clear hcs hbs hps;go_enter func113,ntmps113;go_wp2_with fail;generalize hW:w.alloc (Obj.cells (aA ev) 46)=W at*;generalize hlb:w.heap.size=lb at*;go_loopw [37] (fun i wr=>∃k:Nat,k≤ct∧i= .int .i64 k∧cO wr L (s.turns (ns.take k))∧Ch L.own W wr) (fun i _=>ct-(intOf i).toNat)
  case atStart=>exact⟨0,dx _,rfl,HT.o,Ch.refl _ _⟩
  case round=>
   obtain⟨k,hk,rfl,R,C⟩:=hrel;by_cases hlt2:k<ct
   ·have ik:(k:Int)<(ct:Int):=by omega
    obtain⟨x,hx⟩:∃x,ns[k]? =some x:=⟨_,eG (by omega)⟩;have hcell:wr.cell? ⟨lb,5+k,none⟩=some (.int .i64 x):=(dA (C.block lb FP.o Di.o)).trans (Wz.o k x hx);have hxa:=Tv.o x (iH hx);have hts:s.turns (ns.take (k+1))=({(s.turns (ns.take k))with pen:=TS.turn (s.turns (ns.take k)).pen (TS.amount x)}:TS):=by obtain⟨h1,h2⟩:=gJ.1 hx;rw[o7 h1,h2,Cc]
    have Ud:Hid _:=hts;generalize s.turns (ns.take k)=t at*;have HR:Hid _:=R;have n_:Hid _:=C;clear R C hts hx;have vk:IntKind.i64.wrap ((k:Int)+1)=(k:Int)+1:=bD _ (by omega);go_wp2_with fail;have RG:World.rangeAt ({wr with drawn:=wr.drawn+1}:World) L.tb 29 (dG t.pen):=(HR.o.sm ((Ch.refl _ _).drewN 1)).range' 29 _ rfl;refine dX (S:=fun _=>True) aX ?_;refine ay 0 1 2 3 trivial ?_;simp only[ag,af];refine dH 4 5 7 trivial ?_;simp only[ag,af];refine lQ 6 8 ?_ ?_
    ·refine dI ?_;refine uq 47 (.tmp 46) rfl rfl L.tb 29 t.pen rfl (RG) ?_;refine⟨trivial,?_⟩;simp only[ag,af];refine av 8 ?_;refine dN (vs:=[.int .i64 x]) (fQ _ _) ?_;rintro v2 w9 ⟨rfl,rfl⟩;refine⟨trivial,?_⟩;simp only[ag,af];refine av 9 ?_;refine a_ (vs:=[.agg (aW t.pen),.int .i64 (TS.amount x)]) (R:=fun v w'=>v= .agg (aW (TS.turn t.pen (TS.amount x)))∧Sm wr w') ((IL t.pen (TS.amount x) _ hxa).mono fun e w' h=>⟨_,h.1,rfl,⟨h.2.os,h.2.tape,h.2.output,h.2.size,fun k hk _=>h.2.block k hk⟩⟩) ?_;rintro v2 w8 ⟨rfl,RV⟩;refine⟨trivial,?_⟩;simp only[ag,af];refine ay 10 11 12 13 trivial ?_;simp only[ag,af];refine av 14 ?_;refine qX 80 (.tmp 54) (.tmp 50) rfl rfl L t {t with pen:=TS.turn t.pen (TS.amount x)} 29 (dG (TS.turn t.pen (TS.amount x))) lU rfl rfl (jq _) (HR.o.sm RV) (by show 29+5≤44;omega) rfl rfl rfl rfl rfl ?_;intro u7 t7 c7 _;refine⟨trivial,?_⟩;refine aC ?_;have HF:Hid (cO u7 L {t with pen:=TS.turn t.pen (TS.amount x)}∧Ch L.own W u7):=⟨t7,n_.o.trans ((Sm.ch RV).trans c7)⟩;clear t7 c7 RV HR n_;go_wp2_with fail;go_roundw
     case rel=>exact⟨k+1,by omega,by go_num,by rw[Ud.o];exact HF.o.1,HF.o.2⟩
     case measure=>simp[intOf];omega
    ·refine dI ?_;refine dN (vs:=[.int .i64 x]) (fQ _ _) ?_;rintro v2 w9 ⟨rfl,rfl⟩;refine⟨trivial,?_⟩;simp only[ag,af];refine av 6 ?_;refine uq 47 (.tmp 46) rfl rfl L.tb 29 t.pen rfl (RG) ?_;refine⟨trivial,?_⟩;simp only[ag,af];refine av 9 ?_;refine a_ (vs:=[.agg (aW t.pen),.int .i64 (TS.amount x)]) (R:=fun v w'=>v= .agg (aW (TS.turn t.pen (TS.amount x)))∧Sm wr w') ((IL t.pen (TS.amount x) _ hxa).mono fun e w' h=>⟨_,h.1,rfl,⟨h.2.os,h.2.tape,h.2.output,h.2.size,fun k hk _=>h.2.block k hk⟩⟩) ?_;rintro v2 w8 ⟨rfl,RV⟩;refine⟨trivial,?_⟩;simp only[ag,af];refine ay 10 11 12 13 trivial ?_;simp only[ag,af];refine av 14 ?_;refine qX 80 (.tmp 54) (.tmp 50) rfl rfl L t {t with pen:=TS.turn t.pen (TS.amount x)} 29 (dG (TS.turn t.pen (TS.amount x))) lU rfl rfl (jq _) (HR.o.sm RV) (by show 29+5≤44;omega) rfl rfl rfl rfl rfl ?_;intro u7 t7 c7 _;refine⟨trivial,?_⟩;refine aC ?_;have HF:Hid (cO u7 L {t with pen:=TS.turn t.pen (TS.amount x)}∧Ch L.own W u7):=⟨t7,n_.o.trans ((Sm.ch RV).trans c7)⟩;clear t7 c7 RV HR n_;go_wp2_with fail;go_roundw
     case rel=>exact⟨k+1,by omega,by go_num,by rw[Ud.o];exact HF.o.1,HF.o.2⟩
     case measure=>simp[intOf];omega
   ·have hkn:k=ct:=by omega
    have hnt:ns.take k=ns:=nL (by omega);rw[hnt]at R;subst hkn;have HR:Hid _:=R;have n_:Hid (Ch L.own w wr):=ng.o.trans C;clear R C;go_wp2_with fail;go_end0;exact⟨rfl,by rw[HX.o];exact HR.o,n_.o⟩
 ·have HX:Hid (X=if p0=4 then{s with insert:=true} else s):=by show X=_;rw[hX];rfl
  have d41:=HT.o.c 41 _ rfl;have g41:=HT.o.f 41;clear hX;by_cases hp:p0=4
  ·rw[ak hp]at HX;have bp:(p0==4)=true:=by simp[hp]
   clear hp;go_enter func113,ntmps113;go_wp2_with fail;go_end0;exact⟨rfl,by rw[HX.o];exact(HTW.o.set (s':={s with insert:=true}) 41 (.bool true) rfl rfl rfl rfl rfl).sm ((Ch.refl _ _).alloc _),((Ch.refl _ _).nJ _ _).alloc _⟩
  ·rw[ai hp]at HX;have bp:(p0==4)=false:=by simp[hp]
   clear hp;go_enter func113,ntmps113;go_wp2_with fail;go_end0;exact⟨rfl,by rw[HX.o];exact HT.o,ng.o⟩
 ·have HX:Hid (X=if p0=4 then{s with insert:=false} else s):=by show X=_;rw[hX];rfl
  have d41:=HT.o.c 41 _ rfl;have g41:=HT.o.f 41;clear hX;by_cases hp:p0=4
  ·rw[ak hp]at HX;have bp:(p0==4)=true:=by simp[hp]
   clear hp;go_enter func113,ntmps113;go_wp2_with fail;go_end0;exact⟨rfl,by rw[HX.o];exact(HTW.o.set (s':={s with insert:=false}) 41 (.bool false) rfl rfl rfl rfl rfl).sm ((Ch.refl _ _).alloc _),((Ch.refl _ _).nJ _ _).alloc _⟩
  ·rw[ai hp]at HX;have bp:(p0==4)=false:=by simp[hp]
   clear hp;go_enter func113,ntmps113;go_wp2_with fail;go_end0;exact⟨rfl,by rw[HX.o];exact HT.o,ng.o⟩
 ·rw[ai (by omega),ai (by omega),ai (by omega),ai (by omega)]at hX;have HX:Hid _:=hX;have b1:(f==114)=false:=by simp;omega
  have b2:(f==103)=false:=by simp;omega
  have b3:(f==109)=false:=by simp;omega
  have b4:(f==104)=false:=by simp;omega
  have b5:(f==108)=false:=by simp;omega
  clear hX hf;go_enter func113,ntmps113;go_wp2_with fail;go_end0;exact⟨rfl,by rw[HX.o];exact HT.o,ng.o⟩
end Go.Proofs.YtheibfffilomcaaGreatDoor
