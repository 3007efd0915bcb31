import Derived.Test.YtheibfffilomcaaGreatDoorTmaU
import Derived.Test.YtheibfffilomcaaGreatDoorTr
set_option linter.all false
set_option maxRecDepth 100000
set_option maxHeartbeats 2000000
namespace Go.Proofs.YtheibfffilomcaaGreatDoor
open Go.RowKit Go.Proofs.Tryz
variable {s:TS}
theorem TS.Inv.gU(h:s.Inv)(top bottom:Int)(h0:0≤top):(s.gU top bottom).Inv:=by
 unfold TS.gU;dsimp only;generalize hb:(if bottom<0∨(s.rows:Int)-1<bottom then(s.rows:Int)-1 else bottom)=b;have hb1:b<(s.rows:Int):=by split at hb<;>omega
 split
 ·exact h
 ·exact TS.Inv.home (h.upd rfl rfl rfl rfl rfl rfl rfl h.row0 h.jK h.jA h.jD h0 (by show top≤b;omega) hb1 h.sh)
theorem CK(L:Lay)(s:TS)(w:World)(ht:cO w L s)(hi:s.Inv)(top bottom:Int)(h0:0≤top):Calls prog 191 #[.pointer (some ⟨L.tb,0,none⟩),.int .i64 top,.int .i64 bottom] w fun e w'=>e= .returned (.tuple #[])∧cO w' L (s.gU top bottom)∧Ch L.own w w':=by
 have l1:=rA L s w ht hi;have c38:=ht.c 38 _ rfl;have f38:=ht.f 38;have c39:=ht.c 39 _ rfl;have f39:=ht.f 39;have HT:Hid _:=ht;have HI:Hid s.Inv:=hi;have hX:s.gU top bottom=if(if bottom<0∨(s.rows:Int)-1<bottom then(s.rows:Int)-1 else bottom)≤top then s else({s with top:=top,bottom:=(if bottom<0∨(s.rows:Int)-1<bottom then(s.rows:Int)-1 else bottom)}:TS).home:=rfl;generalize s.gU top bottom=X at*;have lh:∀b,¬b≤top→b<(s.rows:Int)→∀u,cO u L {s with top:=top,bottom:=b}→_:=fun b hb hb2 u hu=>G5 L {s with top:=top,bottom:=b} u hu (hi.upd rfl rfl rfl rfl rfl rfl rfl hi.row0 hi.jK hi.jA hi.jD h0 (by show top≤b;omega) hb2 hi.sh);have st:∀b,cO ((w.setCell ⟨L.tb,38,none⟩ (.int .i64 top)).setCell ⟨L.tb,39,none⟩ (.int .i64 b)) L {s with top:=top,bottom:=b}:=fun b=>(ht.set (s':={s with top:=top}) 38 (.int .i64 top) rfl rfl rfl rfl rfl).set 39 (.int .i64 b) rfl rfl rfl rfl rfl;have CC:∀b,Ch L.own w ((w.setCell ⟨L.tb,38,none⟩ (.int .i64 top)).setCell ⟨L.tb,39,none⟩ (.int .i64 b)):=fun b=>((Ch.refl _ _).nJ _ _).nJ _ _;have hr1:=hi.r1;clear ht hi;by_cases hb0:bottom<0
 ·rw[ak (Or.inl hb0)]at hX;by_cases hq:(s.rows:Int)-1≤top
  ·rw[ak hq]at hX;have HX:Hid _:=hX;clear hX;go_enter func191,ntmps191;go_wp2_with (go_at_call 154;refine l1.mono ?_;rintro e w1 ⟨rfl,hw1⟩;have hw2:=hw1.symm;subst hw2);exact bX (dz results191 _ _ _) rfl ⟨rfl,by rw[HX.o];exact HT.o,Ch.refl _ _⟩
  ·rw[ai hq]at hX;have HX:Hid _:=hX;have dq:decide ((s.rows:Int)-1≤top)=false:=by simp;omega
   have l2:=lh ((s.rows:Int)-1) hq (by omega) _ (st _);clear hX lh;go_enter func191,ntmps191;go_wp2_with (first|(go_at_call 154;refine l1.mono ?_;rintro e w1 ⟨rfl,hw1⟩;have hw2:=hw1.symm;subst hw2)|(go_at_call 194;refine l2.mono ?_;rintro e w2 ⟨rfl,h2,c2⟩));go_end0;exact⟨rfl,by rw[HX.o];exact h2,(CC _).trans c2⟩
 ·by_cases hb1:(s.rows:Int)-1<bottom
  ·rw[ak (Or.inr hb1)]at hX;have d0:decide (bottom<0)=false:=by simp;omega
   by_cases hq:(s.rows:Int)-1≤top
   ·rw[ak hq]at hX;have HX:Hid _:=hX;clear hX;go_enter func191,ntmps191;go_wp2_with (go_at_call 154;refine l1.mono ?_;rintro e w1 ⟨rfl,hw1⟩;have hw2:=hw1.symm;subst hw2);exact bX (dz results191 _ _ _) rfl ⟨rfl,by rw[HX.o];exact HT.o,Ch.refl _ _⟩
   ·rw[ai hq]at hX;have HX:Hid _:=hX;have dq:decide ((s.rows:Int)-1≤top)=false:=by simp;omega
    have l2:=lh ((s.rows:Int)-1) hq (by omega) _ (st _);clear hX lh;go_enter func191,ntmps191;go_wp2_with (first|(go_at_call 154;refine l1.mono ?_;rintro e w1 ⟨rfl,hw1⟩;have hw2:=hw1.symm;subst hw2)|(go_at_call 194;refine l2.mono ?_;rintro e w2 ⟨rfl,h2,c2⟩));go_end0;exact⟨rfl,by rw[HX.o];exact h2,(CC _).trans c2⟩
  ·rw[ai (show¬(bottom<0∨(s.rows:Int)-1<bottom) by omega)]at hX;have d0:decide (bottom<0)=false:=by simp;omega
   have d1:decide ((s.rows:Int)-1<bottom)=false:=by simp;omega
   by_cases hq:bottom≤top
   ·rw[ak hq]at hX;have HX:Hid _:=hX;clear hX;go_enter func191,ntmps191;go_wp2_with (go_at_call 154;refine l1.mono ?_;rintro e w1 ⟨rfl,hw1⟩;have hw2:=hw1.symm;subst hw2);exact bX (dz results191 _ _ _) rfl ⟨rfl,by rw[HX.o];exact HT.o,Ch.refl _ _⟩
   ·rw[ai hq]at hX;have HX:Hid _:=hX;have dq:decide (bottom≤top)=false:=by simp;omega
    have l2:=lh (bottom) hq (by omega) _ (st _);clear hX lh;go_enter func191,ntmps191;go_wp2_with (first|(go_at_call 154;refine l1.mono ?_;rintro e w1 ⟨rfl,hw1⟩;have hw2:=hw1.symm;subst hw2)|(go_at_call 194;refine l2.mono ?_;rintro e w2 ⟨rfl,h2,c2⟩));go_end0;exact⟨rfl,by rw[HX.o];exact h2,(CC _).trans c2⟩
theorem iX{fn:Func}{p:Tmp}(h:fn.results= #[.cell p 80])(tmps:Array Value)(w:World)(g:Nat)(c:fO)(t:TypeId)(fr:Nat × Nat)(hp:tmps.getD p undef= .pointer (some ⟨g,0,none⟩))(hg:w.heap[g]? =some (.cells (aW c) t fr)):(results fn tmps).run prog w= .ok (.agg (aW c)) w:=
 results_cell_row h tmps w g t (aW c) fr _ hp hg underlying80 rfl (by exact lU)
theorem nS(w:World)(a b:Obj):((w.alloc a).alloc b).heap[w.heap.size+1]? =some b:=by
 have hs:(w.alloc a).heap.size=w.heap.size+1:=by simp
 rw[←hs];exact bV _ _
theorem IL(p:fO)(n:Int)(w:World)(hn:0≤n∧n≤70000):Calls prog 193 #[.agg (aW p),.int .i64 n] w fun e w'=>e= .returned (.agg (aW (TS.turn p n)))∧Below w.heap.size w w':=by
 change Calls prog 193 #[.agg #[.bool p.b,.bool p.u,.bool p.t,.int .i64 p.f,.int .i64 p.k],.int .i64 n] w _;generalize hX:TS.turn p n=X;unfold TS.turn at hX;by_cases h0:n=0
 ·subst h0;have HX:Hid (mO=X):=by rw[←hX];rfl
  clear hX;go_enter func193,ntmps193;go_wp2_with fail
  all_goals refine bX (iX results193 _ _ (w.heap.size+1) X 80 (0,0) (by simp) ?_) rfl ⟨rfl,((dU _ _).alloc (bN _) _).alloc (by simp) _⟩
  all_goals rw[←HX.o];exact nS _ _ _
 by_cases h1:n=1
 ·subst h1;have HX:Hid ({p with b:=true}=X):=by rw[←hX];rfl
  clear hX;go_enter func193,ntmps193;go_wp2_with fail
  all_goals refine bX (iX results193 _ _ (w.heap.size+1) X 80 (0,0) (by simp) ?_) rfl ⟨rfl,((dU _ _).alloc (bN _) _).alloc (by simp) _⟩
  all_goals rw[←HX.o];exact nS _ _ _
 by_cases h22:n=22
 ·subst h22;have HX:Hid ({p with b:=false}=X):=by rw[←hX];rfl
  clear hX;go_enter func193,ntmps193;go_wp2_with fail
  all_goals refine bX (iX results193 _ _ (w.heap.size+1) X 80 (0,0) (by simp) ?_) rfl ⟨rfl,((dU _ _).alloc (bN _) _).alloc (by simp) _⟩
  all_goals rw[←HX.o];exact nS _ _ _
 by_cases h4:n=4
 ·subst h4;have HX:Hid ({p with u:=true}=X):=by rw[←hX];rfl
  clear hX;go_enter func193,ntmps193;go_wp2_with fail
  all_goals refine bX (iX results193 _ _ (w.heap.size+1) X 80 (0,0) (by simp) ?_) rfl ⟨rfl,((dU _ _).alloc (bN _) _).alloc (by simp) _⟩
  all_goals rw[←HX.o];exact nS _ _ _
 by_cases h24:n=24
 ·subst h24;have HX:Hid ({p with u:=false}=X):=by rw[←hX];rfl
  clear hX;go_enter func193,ntmps193;go_wp2_with fail
  all_goals refine bX (iX results193 _ _ (w.heap.size+1) X 80 (0,0) (by simp) ?_) rfl ⟨rfl,((dU _ _).alloc (bN _) _).alloc (by simp) _⟩
  all_goals rw[←HX.o];exact nS _ _ _
 by_cases h7:n=7
 ·subst h7;have HX:Hid ({p with t:=true}=X):=by rw[←hX];rfl
  clear hX;go_enter func193,ntmps193;go_wp2_with fail
  all_goals refine bX (iX results193 _ _ (w.heap.size+1) X 80 (0,0) (by simp) ?_) rfl ⟨rfl,((dU _ _).alloc (bN _) _).alloc (by simp) _⟩
  all_goals rw[←HX.o];exact nS _ _ _
 by_cases h27:n=27
 ·subst h27;have HX:Hid ({p with t:=false}=X):=by rw[←hX];rfl
  clear hX;go_enter func193,ntmps193;go_wp2_with fail
  all_goals refine bX (iX results193 _ _ (w.heap.size+1) X 80 (0,0) (by simp) ?_) rfl ⟨rfl,((dU _ _).alloc (bN _) _).alloc (by simp) _⟩
  all_goals rw[←HX.o];exact nS _ _ _
 by_cases h39:n=39
 ·subst h39;have HX:Hid ({p with f:=0}=X):=by rw[←hX];rfl
  clear hX;go_enter func193,ntmps193;go_wp2_with fail
  all_goals refine bX (iX results193 _ _ (w.heap.size+1) X 80 (0,0) (by simp) ?_) rfl ⟨rfl,((dU _ _).alloc (bN _) _).alloc (by simp) _⟩
  all_goals rw[←HX.o];exact nS _ _ _
 by_cases h49:n=49
 ·subst h49;have HX:Hid ({p with k:=0}=X):=by rw[←hX];rfl
  clear hX;go_enter func193,ntmps193;go_wp2_with fail
  all_goals refine bX (iX results193 _ _ (w.heap.size+1) X 80 (0,0) (by simp) ?_) rfl ⟨rfl,((dU _ _).alloc (bN _) _).alloc (by simp) _⟩
  all_goals rw[←HX.o];exact nS _ _ _
 have b0:(n==0)=false:=by simp[h0]
 have b1:(n==1)=false:=by simp[h1]
 have b22:(n==22)=false:=by simp[h22]
 have b4:(n==4)=false:=by simp[h4]
 have b24:(n==24)=false:=by simp[h24]
 have b7:(n==7)=false:=by simp[h7]
 have b27:(n==27)=false:=by simp[h27]
 have b39:(n==39)=false:=by simp[h39]
 have b49:(n==49)=false:=by simp[h49]
 rw[ai h0,ai (show¬(n=1∨n=22) by omega),ai (show¬(n=4∨n=24) by omega),ai (show¬(n=7∨n=27) by omega)]at hX;by_cases r1:30≤n∧n≤37
 ·rw[ak r1]at hX;have HX:Hid _:=hX;obtain⟨r1a,r1b⟩:=r1;have v1:IntKind.i64.wrap (n-29)=n-29:=bD _ (by omega);clear hX h0 h1 h22 h4 h24 h7 h27 h39 h49;go_enter func193,ntmps193;go_wp2_with fail
  all_goals refine bX (iX results193 _ _ (w.heap.size+1) X 80 (0,0) (by simp) ?_) rfl ⟨rfl,((dU _ _).alloc (bN _) _).alloc (by simp) _⟩
  all_goals rw[←HX.o];exact nS _ _ _
 ·rw[ai r1,ai h39]at hX;by_cases r2:40≤n∧n≤47
  ·rw[ak r2]at hX;have HX:Hid _:=hX;obtain⟨r2a,r2b⟩:=r2;have d1:decide (n≤37)=false:=by simp;omega
   have d1':decide (30≤n)=true:=by simp;omega
   have d1'':30≤n:=by omega
   have v1:IntKind.i64.wrap (n-39)=n-39:=bD _ (by omega);clear hX h0 h1 h22 h4 h24 h7 h27 h39 h49;go_enter func193,ntmps193;go_wp2_with fail
   all_goals refine bX (iX results193 _ _ (w.heap.size+1) X 80 (0,0) (by simp) ?_) rfl ⟨rfl,((dU _ _).alloc (bN _) _).alloc (by simp) _⟩
   all_goals rw[←HX.o];exact nS _ _ _
  ·rw[ai r2,ai h49]at hX;have HX:Hid _:=hX;clear hX h0 h1 h22 h4 h24 h7 h27;rcases(show n<30∨(37<n∧n<40)∨47<n by omega)with q|q|q
   ·have d1:decide (30≤n)=false:=by simp;omega
    have d2:decide (40≤n)=false:=by simp;omega
    clear r1 r2 h39 h49;go_enter func193,ntmps193;go_wp2_with fail
    all_goals refine bX (iX results193 _ _ (w.heap.size+1) X 80 (0,0) (by simp) ?_) rfl ⟨rfl,((dU _ _).alloc (bN _) _).alloc (by simp) _⟩
    all_goals rw[←HX.o];exact nS _ _ _
   ·have d1:decide (30≤n)=true:=by simp;omega
    have d1':decide (n≤37)=false:=by simp;omega
    have d1'':30≤n:=by omega
    have d2:decide (40≤n)=false:=by simp;omega
    clear r1 r2 h39 h49;go_enter func193,ntmps193;go_wp2_with fail
    all_goals refine bX (iX results193 _ _ (w.heap.size+1) X 80 (0,0) (by simp) ?_) rfl ⟨rfl,((dU _ _).alloc (bN _) _).alloc (by simp) _⟩
    all_goals rw[←HX.o];exact nS _ _ _
   ·have d1:decide (30≤n)=true:=by simp;omega
    have d1':decide (n≤37)=false:=by simp;omega
    have d1'':30≤n:=by omega
    have d2'':40≤n:=by omega
    have d2:decide (40≤n)=true:=by simp;omega
    have d2':decide (n≤47)=false:=by simp;omega
    clear r1 r2 h39 h49;go_enter func193,ntmps193;go_wp2_with fail
    all_goals refine bX (iX results193 _ _ (w.heap.size+1) X 80 (0,0) (by simp) ?_) rfl ⟨rfl,((dU _ _).alloc (bN _) _).alloc (by simp) _⟩
    all_goals rw[←HX.o];exact nS _ _ _
theorem ac_(u:World):(zeroValue 4).run prog u= .ok (.bool false) u:=by kernel_rfl
theorem Y8(n:Nat):(Builtin.zeroCells #[Value.bool false] n).toList=List.replicate n (Value.bool false):=by
 apply List.ext_getElem?;intro i;simp only[Builtin.zeroCells,Array.getElem?_toList,Array.getElem?_map,Array.getElem?_range,CW];by_cases h:i<n
 ·rw[ak (by simpa using h),ak h];simp[Nat.mod_one]
 ·rw[ai (by simpa using h),ai h];rfl
theorem OG{ops:Array Oper}{rest:List Oper}{o:Oper}{a:Act}{u:World}{Q:Exit→Act→World→Prop}(hgd:o.guard=none)(x:Operand)(ho:o.op= .call {callee:=.builtin .clear,args:=#[x],argTypes:=#[162]})(hd:o.dst=none)(L:Lay)(s:TS)(hx:a.eval x= .slice (some ⟨L.gb,0,none⟩) s.ah s.ah)(ht:cO u L s)(hi:s.Inv)(h:∀u',cO u' L {s with tabs:=List.replicate s.tabs.length false}→Ch L.own u u'→wpList prog ops Q rest a u'):wpList prog ops Q (o::rest) a u:=by
 have hlen:(s.tabs.map Value.bool).length=s.ah:=by rw[List.length_map];exact hi.lt
 have hst:=run_storeCells_cells (P:=prog) L.gb 0 (List.replicate s.ah (.bool false)) 0 u (fun i hj=>by rw[kJ]at hj;rw[bG _ _ _ _ _ _ ht.tab];simp[hi.lt,hj]) (fun i _=>oh _ _ _ _ _ ht.tab) (fun v hv=>by rw[AJ hv];rfl);have hz:=size_setCells L.gb (List.replicate s.ah (.bool false)) 0 u;have hb:=nO (vs:=List.replicate s.ah (Value.bool false)) (o:=0) ht.tab (by rw[hlen,kJ];omega);rw[List.take_zero,mP,qB (by rw[hlen,kJ];omega),gp]at hb;have k:Ch (· =L.gb) u (u.setCells L.gb 0 (List.replicate s.ah (.bool false))):=⟨hz.2.1,hz.2.2.1,hz.2.2.2,by omega,fun i _ hn=>iR L.gb _ _ _ i hn⟩;have T:=ht.Fu (tabs:=List.replicate s.tabs.length false) (by rw[List.map_replicate,hi.lt];exact hb) k;refine oq hgd fun K hK=>?_;have R:=hK _ _ (h _ T (k.mono fun j _ e=>.inr (.inr (.inr (.inl e)))));have hc1:=hi.c1;obtain⟨m,hm⟩:∃m,s.ah=m+1:=⟨s.ah-1,by omega⟩;have hrun:(Builtin.clear_ #[162] o.type #[.slice (some ⟨L.gb,0,none⟩) s.ah s.ah]).run prog u= .ok (.tuple #[]) (u.setCells L.gb 0 (List.replicate s.ah (.bool false))):=by rw[hm]at hst ⊢;have hzc:(Value.bool false).cells= #[.bool false]:=rfl;simp only[Builtin.clear_,jV,run_underlying underlying162,jU,CZ,List.getElem?_cons_zero,ac_,hzc,Y8];rw[uw]at hst;rw[hst];rfl
 unfold Oper.wp;simp[execOp,ho,resolve,invoke,builtin,hx,hrun,Result.andThen,Oper.upon_value,Act.put,hd];simpa[Act.put]using R
theorem TS.Inv.Fv(h:s.Inv)(t:List Bool)(ht:t.length=s.ah):({s with tabs:=t}:TS).Inv:=
 ⟨h.r1,h.r2,h.c1,h.c2,h.row0,h.jK,h.jA,h.jD,h.iO,h.tb,h.bot,h.sh,h.l0,h.l1,ht,h.Y4,h.Y3,h.Y6,h.Y5⟩
theorem TS.Inv.fM(h:s.Inv)(what:Int):(s.fM what).Inv:=by
 unfold TS.fM;split
 ·exact h.Fv _ (by rw[lG];exact h.lt)
 ·split
  ·exact h.Fv _ (by rw[kJ];exact h.lt)
  ·exact h
theorem CB(L:Lay)(s:TS)(w:World)(ht:cO w L s)(hi:s.Inv)(what:Int):Calls prog 192 #[.pointer (some ⟨L.tb,0,none⟩),.int .i64 what] w fun e w'=>e= .returned (.tuple #[])∧cO w' L (s.fM what)∧Ch L.own w w':=by
 obtain⟨cc,hcc⟩:∃cc:Nat,s.col=(cc:Int):=⟨s.col.toNat,by have:=hi.jA;omega⟩;have hcl:cc<s.ah:=by have:=hi.jD;omega
 have hcl':(cc:Int)<(s.ah:Int):=by omega
 have hcn:s.col.toNat=cc:=by rw[hcc];rfl
 have htl:cc<s.tabs.length:=by rw[hi.lt];exact hcl
 have c43:=ht.c 43 _ rfl;have HT:Hid _:=ht;have HI:Hid s.Inv:=hi;clear ht hi;rcases(show what=0∨what=3∨¬(what=0∨what=3) by omega)with rfl|rfl|hw
 ·rw[show s.fM 0= {s with tabs:=s.tabs.set s.col.toNat false} from rfl,hcn];have HT0:cO ({w with drawn:=w.drawn+1}:World) L s:=HT.o.sm ((Ch.refl _ _).drewN 1);have HH:World.cell? ({w with drawn:=w.drawn+1}:World) ⟨L.tb,43,none⟩=some (.slice (some ⟨L.gb,0,none⟩) s.ah s.ah)∧World.cell? ({w with drawn:=w.drawn+1}:World) ⟨L.tb,27,none⟩=some (.int .i64 (cc:Int)):=⟨HT0.c 43 _ rfl,by rw[←hcc];exact HT0.c 27 _ rfl⟩;go_enter func192,ntmps192;go_wp2_with fail;refine dX (S:=fun x=>x.cell? ⟨L.tb,43,none⟩=some (.slice (some ⟨L.gb,0,none⟩) s.ah s.ah)∧x.cell? ⟨L.tb,27,none⟩=some (.int .i64 (cc:Int))) aX ?_;refine ay 0 1 2 3 HH ?_;simp only[ag,af];refine ay 4 5 6 7 HH ?_;simp only[ag,af];refine dW 8 9 HH ?_;refine aj 10 HH ?_ (v:=.pointer (some ⟨L.gb,cc,none⟩));simp only[ag,af];refine av 11 ?_;refine mh 4 xA (.tmp 17) _ rfl rfl L.gb cc (s.tabs.map Value.bool) ((s.tabs.set cc false).map Value.bool) (.bool false) (by rw[List.length_map];exact htl) rfl rfl rfl rfl (by rw[List.map_set]) 4 HT0.tab ?_;intro u3 g3 k3;have T3:=HT0.Fu g3 k3;refine⟨⟨T3.c 43 _ rfl,by rw[←hcc];exact T3.c 27 _ rfl⟩,?_⟩;refine aC ?_;have HF:Hid (cO u3 L {s with tabs:=s.tabs.set cc false}∧Ch L.own w u3):=⟨T3,(⟨k3.os,k3.tape,k3.output,k3.size,k3.block⟩:Ch (· =L.gb) w u3).mono fun k _ e=>.inr (.inr (.inr (.inl e)))⟩;clear T3 k3 g3 HT0 HH;go_wp2_with fail;go_end0;exact⟨rfl,HF.o.1,HF.o.2⟩
 ·rw[show s.fM 3= {s with tabs:=List.replicate s.tabs.length false} from rfl];go_enter func192,ntmps192;go_wp2_with (refine OG rfl (.tmp 23) rfl rfl L s rfl HT.o HI.o ?_);intro u' t' c';go_wp2_with fail;go_end0;exact⟨rfl,t',c'⟩
 ·have e:s.fM what=s:=by unfold TS.fM;simp only[ai (show¬what=0 by omega),ai (show¬what=3 by omega)]
  rw[e];have b0:(what==0)=false:=by simp;omega
  have b1:(what==3)=false:=by simp;omega
  clear e hw;go_enter func192,ntmps192;go_wp2_with fail;go_end0;exact⟨rfl,HT.o,Ch.refl _ _⟩
theorem D9(on:Bool):∀(l:List Int) (s:TS) (x:Int),s.sets on (l++[x])=(s.sets on l).set1 x on
 | [],_,_=>rfl
 |y::l,s,x=>by show(s.set1 y on).sets on (l++[x])=_;rw[D9 on l];rfl
theorem TS.Inv.set1(h:s.Inv)(n:Int)(on:Bool):(s.set1 n on).Inv:=by
 unfold TS.set1;split
 ·exact TS.Inv.home (h.upd rfl rfl rfl rfl rfl rfl rfl h.row0 h.jK h.jA h.jD h.iO h.tb h.bot h.sh)
 ·split
  ·exact h.upd rfl rfl rfl rfl rfl rfl rfl h.row0 h.jK h.jA h.jD h.iO h.tb h.bot h.sh
  ·split
   ·exact h.upd rfl rfl rfl rfl rfl rfl rfl h.row0 h.jK h.jA h.jD h.iO h.tb h.bot (by show(if on then(1:Int)else 0)=0∨(if on then(1:Int)else 0)=1;cases on<;>simp)
   ·exact h
theorem TS.Inv.sets(on:Bool):∀(l:List Int),s.Inv→(s.sets on l).Inv:=by
 intro l;induction l generalizing s with
 |nil=>exact id
 |cons x l ih=>exact fun h=>ih (h.set1 x on)
theorem Mi(L:Lay)(s:TS)(w:World)(ht:cO w L s)(hi:s.Inv)(on:Bool)(eb eo cap:Nat)(ns:List Int)(hns:ns.length≤16)(hc:∀j x,ns[j]? =some x→w.cell? ⟨eb,eo+j,none⟩=some (.int .i64 x))(hno:¬L.own eb)(hlt:eb<w.heap.size):
 Calls prog 114 #[.pointer (some ⟨L.tb,0,none⟩),.slice (some ⟨eb,eo,none⟩) ns.length cap,.bool on] w fun e w'=>e= .returned (.tuple #[])∧cO w' L (s.sets on ns)∧Ch L.own w w':=by
 have HT:Hid _:=ht;have HI:Hid s.Inv:=hi;have HC:Hid _:=hc;clear ht hi hc;go_enter func114,ntmps114;go_wp2_with fail;go_loopw [10] (fun i wr=>∃k:Nat,k≤ns.length∧i= .int .i64 k∧cO wr L (s.sets on (ns.take k))∧Ch L.own w wr) (fun i _=>ns.length-(intOf i).toNat)
 case atStart=>exact⟨0,dx _,rfl,HT.o,Ch.refl _ _⟩
 case round=>
  clear HT;obtain⟨k,hk,rfl,R,C⟩:=hrel;by_cases hlt2:k<ns.length
  ·have ik:(k:Int)<(ns.length:Int):=by omega
   obtain⟨x,hx⟩:∃x,ns[k]? =some x:=⟨_,eG hlt2⟩;have hcell:wr.cell? ⟨eb,eo+k,none⟩=some (.int .i64 x):=(dA (C.block eb hlt hno)).trans (HC.o k x hx);have hts:s.sets on (ns.take (k+1))=(s.sets on (ns.take k)).set1 x on:=by obtain⟨h1,h2⟩:=gJ.1 hx;rw[o7 h1,h2,D9]
   have TG:Hid (s.sets on (ns.take k)).Inv:=TS.Inv.sets on _ HI.o;have Ud:Hid _:=hts;generalize s.sets on (ns.take k)=t at*;have d28:=R.c 28 _ rfl;have d37:=R.c 37 _ rfl;have d40:=R.c 40 _ rfl;have d42:=R.c 42 _ rfl;have g28:=R.f 28;have g37:=R.f 37;have g40:=R.f 40;have g42:=R.f 42;have HR:Hid _:=R;have n_:Hid _:=C;clear R C hts hx;have vk:IntKind.i64.wrap ((k:Int)+1)=(k:Int)+1:=bD _ (by omega);rcases(show x=6∨x=7∨x=47∨¬(x=6∨x=7∨x=47) by omega)with rfl|rfl|rfl|hx
   ·have l1:=G5 L {t with origin:=on} _ (HR.o.set (s':={t with origin:=on}) 37 (.bool on) rfl rfl rfl rfl rfl) (TG.o.upd rfl rfl rfl rfl rfl rfl rfl TG.o.row0 TG.o.jK TG.o.jA TG.o.jD TG.o.iO TG.o.tb TG.o.bot TG.o.sh);go_wp2_with (go_at_call 194;refine l1.mono ?_;rintro e w1 ⟨rfl,h1,c1⟩);go_roundw
    case rel=>exact⟨k+1,by omega,by go_num,by rw[Ud.o];exact h1,n_.o.trans (((Ch.refl _ _).nJ _ _).trans c1)⟩
    case measure=>simp[intOf];omega
   ·cases hw:t.waits with
    |true=>
     rw[hw]at d28;go_wp2_with fail;go_roundw
     case rel=>exact⟨k+1,by omega,by go_num,by rw[Ud.o,show t.set1 7 on= {t with wrap:=on,waits:=t.waits&&on} from rfl,hw,Bool.true_and];exact(HR.o.set (s':={t with wrap:=on}) 40 (.bool on) rfl rfl rfl rfl rfl).set 28 (.bool on) rfl rfl rfl rfl rfl,n_.o.trans (((Ch.refl _ _).nJ _ _).nJ _ _)⟩
     case measure=>simp[intOf];omega
    |false=>
     rw[hw]at d28;go_wp2_with fail;go_roundw
     case rel=>exact⟨k+1,by omega,by go_num,by rw[Ud.o,show t.set1 7 on= {t with wrap:=on,waits:=t.waits&&on} from rfl,hw,Bool.false_and];exact(HR.o.set (s':={t with wrap:=on}) 40 (.bool on) rfl rfl rfl rfl rfl).set 28 (.bool false) rfl rfl rfl rfl rfl,n_.o.trans (((Ch.refl _ _).nJ _ _).nJ _ _)⟩
     case measure=>simp[intOf];omega
   ·cases on with
    |true=>
     go_wp2_with fail;go_roundw
     case rel=>exact⟨k+1,by omega,by go_num,by rw[Ud.o,show t.set1 47 true= {t with shown:=1} from rfl];exact(HR.o.set (s':={t with shown:=0}) 42 (.int .i64 0) rfl rfl rfl rfl rfl).set 42 (.int .i64 1) rfl rfl rfl rfl rfl,n_.o.trans (((Ch.refl _ _).nJ _ _).nJ _ _)⟩
     case measure=>simp[intOf];omega
    |false=>
     go_wp2_with fail;go_roundw
     case rel=>exact⟨k+1,by omega,by go_num,by rw[Ud.o,show t.set1 47 false= {t with shown:=0} from rfl];exact HR.o.set (s':={t with shown:=0}) 42 (.int .i64 0) rfl rfl rfl rfl rfl,n_.o.trans ((Ch.refl _ _).nJ _ _)⟩
     case measure=>simp[intOf];omega
   ·have e:t.set1 x on=t:=by unfold TS.set1;simp only[ai (show¬x=6 by omega),ai (show¬x=7 by omega),ai (show¬x=47 by omega)]
    have b1:(x==6)=false:=by simp;omega
    have b2:(x==7)=false:=by simp;omega
    have b3:(x==47)=false:=by simp;omega
    have HE:Hid _:=e;clear e hx;go_wp2_with fail;go_roundw
    case rel=>exact⟨k+1,by omega,by go_num,by rw[Ud.o,HE.o];exact HR.o,n_.o⟩
    case measure=>simp[intOf];omega
  ·have hkn:k=ns.length:=by omega
   subst hkn;rw[List.take_length]at R;have HR:Hid _:=R;have n_:Hid _:=C;clear R C;go_wp2_with fail;go_end0;exact⟨rfl,HR.o,n_.o⟩
end Go.Proofs.YtheibfffilomcaaGreatDoor
