import Derived.Test.YtheibfffilomcaaGreatDoorTmaU
import Derived.Test.YtheibfffilomcaaGreatDoorTmU
import Derived.Test.YtheibfffilomcaaGreatDoorTkU
set_option linter.all false
set_option maxRecDepth 100000
set_option maxHeartbeats 1000000
namespace Go.Proofs.YtheibfffilomcaaGreatDoor
open Go.RowKit Go.Proofs.Tryz
variable {a b x:Int} {L:Lay} {w w' u:World} {s':TS} {r:List (Int × Int × Int)}
def Next (L:Lay) (w w':World) (s':TS):Prop:=∃L':Lay,L'.tb=L.tb∧cO w' L' s'∧Ch L.own w w'∧∀k,L'.own k→L.own k∨w.heap.size≤k
theorem Next.of(h:cO w' L s')(c:Ch L.own w w'):Next L w w' s':=⟨L,rfl,h,c,fun _ hk=>.inl hk⟩
theorem Next.ahead(c:Ch L.own w u)(h:Next L u w' s'):Next L w w' s':=by obtain⟨L',h1,h2,h3,h4⟩:=h;exact⟨L',h1,h2,c.trans h3,fun k hk=>(h4 k hk).imp id (fun q=>iD c.size q)⟩
theorem TS.Inv.fresh{rows ah:Nat}(hr:1≤rows∧rows≤12)(hc:1≤ah∧ah≤40):(TS.fresh rows ah).Inv:=
 ⟨hr.1,hr.2,hc.1,hc.2,Int.le_refl _,by show(0:Int)<(rows:Int);omega,Int.le_refl _,by show(0:Int)<(ah:Int);omega,Int.le_refl _,by show(0:Int)≤(rows:Int)-1;omega,by show(rows:Int)-1<(rows:Int);omega,.inl rfl,
  by simp[TS.fresh],by simp[TS.fresh],by simp[TS.fresh],⟨Int.le_refl _,by show(0:Int)<(rows:Int);omega⟩,⟨Int.le_refl _,by show(0:Int)<(ah:Int);omega⟩,⟨Int.le_refl _,by show(0:Int)<(rows:Int);omega⟩,⟨Int.le_refl _,by show(0:Int)<(ah:Int);omega⟩⟩
theorem Ow(L:Lay)(s:TS):∀v∈mg L s,v.oneCell'=true:=by intro v hv;have:(mg L s).all (·.oneCell')=true:=rfl;exact List.all_eq_true.1 this v hv
theorem L9:(prog.info? 164).map (·.size)=some 44:=by kernel_rfl
theorem sF(L:Lay)(s:TS)(w:World)(ht:cO w L s)(hi:s.Inv):Calls prog 147 #[.pointer (some ⟨L.tb,0,none⟩)] w fun e w'=>e= .returned (.tuple #[.int .i64 (s.rows:Int),.int .i64 (s.ah:Int)])∧w'=w:=by
 have l1:=rA L s w ht hi;have l2:=pE L s w ht hi;have hr2:=hi.r2;have hc2:=hi.c2;have v1:IntKind.i64.wrap ((s.rows:Int)-1+1)=(s.rows:Int):=by rw[Int.sub_add_cancel];exact bD _ (by omega)
 have v2:IntKind.i64.wrap ((s.ah:Int)-1+1)=(s.ah:Int):=by rw[Int.sub_add_cancel];exact bD _ (by omega)
 have v3:IntKind.i64.wrap (s.rows:Int)=(s.rows:Int):=bD _ (by omega);have v4:IntKind.i64.wrap (s.ah:Int)=(s.ah:Int):=bD _ (by omega);clear ht hi;go_enter func147,ntmps147;go_wp2_with (first|(go_at_call 154;refine l1.mono ?_;rintro e w1 ⟨rfl,hw1⟩;have hw2:=hw1.symm;subst hw2)|(go_at_call 105;refine l2.mono ?_;rintro e w1 ⟨rfl,hw1⟩;have hw2:=hw1.symm;subst hw2));go_ret2;exact⟨rfl,rfl⟩
theorem PZ(L:Lay)(s:TS)(w:World)(ht:cO w L s)(hi:s.Inv)(f:Int):Calls prog 108 #[.pointer (some ⟨L.tb,0,none⟩),.int .i64 f] w fun e w'=>e= .returned (.tuple #[])∧Next L w w' (s.bare f):=by
 have c28:=ht.c 28 _ rfl;have f28:=ht.f 28;have HT:Hid _:=ht;have hu:=ht.set (s':=s.aF) 28 (.bool false) rfl rfl rfl rfl rfl;have HU:Hid _:=hu;have HI:Hid s.Inv:=hi;have CU:Hid (Ch L.own w (w.setCell ⟨L.tb,28,none⟩ (.bool false))):=(Ch.refl _ _).nJ _ _;have hr2:=hi.r2;have hr1:=hi.r1;have hc1:=hi.c1;have hc2:=hi.c2;have hlt:=ht.lt;clear ht hu hi;rcases(show f=55∨f=56∨f=68∨f=77∨f=69∨f=72∨f=99∨¬(f=55∨f=56∨f=68∨f=77∨f=69∨f=72∨f=99) by omega)with rfl|rfl|rfl|rfl|rfl|rfl|rfl|hf
 ·rw[show s.bare 55=s.save from rfl];go_enter func108,ntmps108;go_wp2_with (go_at_call 175;refine(RH L s w HT.o HI.o).mono ?_;rintro e w1 ⟨rfl,h1,c1⟩);go_end0;exact⟨rfl,Next.of h1 (c1)⟩
 ·rw[show s.bare 56=s.restore from rfl];go_enter func108,ntmps108;go_wp2_with (go_at_call 176;refine(Ie L s w HT.o HI.o).mono ?_;rintro e w1 ⟨rfl,h1,c1⟩);go_end0;exact⟨rfl,Next.of h1 (c1)⟩
 ·rw[show s.bare 68=s.aF.down from rfl];go_enter func108,ntmps108;go_wp2_with (go_at_call 107;refine(sJ L s.aF _ HU.o HI.o.aF).mono ?_;rintro e w1 ⟨rfl,h1,c1⟩);go_end0;exact⟨rfl,Next.of h1 (CU.o.trans c1)⟩
 ·rw[show s.bare 77=s.aF.up from rfl];go_enter func108,ntmps108;go_wp2_with (go_at_call 177;refine(Vz L s.aF _ HU.o HI.o.aF).mono ?_;rintro e w1 ⟨rfl,h1,c1⟩);go_end0;exact⟨rfl,Next.of h1 (CU.o.trans c1)⟩
 ·rw[show s.bare 69=s.aF.bE from rfl];go_enter func108,ntmps108;go_wp2_with (go_at_call 99;refine(tV L s.aF _ HU.o HI.o.aF).mono ?_;rintro e w1 ⟨rfl,h1,c1⟩);go_end0;exact⟨rfl,Next.of h1 (CU.o.trans c1)⟩
 ·rw[show s.bare 72= {s with tabs:=s.tabs.set s.col.toNat true} from rfl];obtain⟨cc,hcc⟩:∃cc:Nat,s.col=(cc:Int):=⟨s.col.toNat,by have:=HI.o.jA;omega⟩;have hcl:cc<s.ah:=by have:=HI.o.jD;omega
  have hcl':(cc:Int)<(s.ah:Int):=by omega
  rw[show s.col.toNat=cc by rw[hcc];rfl];have htl:cc<s.tabs.length:=by rw[HI.o.lt];exact hcl
  have HT0:cO ({w with drawn:=w.drawn+1}:World) L s:=HT.o.sm ((Ch.refl _ _).drewN 1);have HH:World.cell? ({w with drawn:=w.drawn+1}:World) ⟨L.tb,43,none⟩=some (.slice (some ⟨L.gb,0,none⟩) s.ah s.ah)∧World.cell? ({w with drawn:=w.drawn+1}:World) ⟨L.tb,27,none⟩=some (.int .i64 (cc:Int)):=⟨HT0.c 43 _ rfl,by rw[←hcc];exact HT0.c 27 _ rfl⟩;go_enter func108,ntmps108;go_wp2_with fail;refine dX (S:=fun x=>x.cell? ⟨L.tb,43,none⟩=some (.slice (some ⟨L.gb,0,none⟩) s.ah s.ah)∧x.cell? ⟨L.tb,27,none⟩=some (.int .i64 (cc:Int))) aX ?_;refine ay 0 1 2 3 HH ?_;simp only[ag,af];refine ay 4 5 6 7 HH ?_;simp only[ag,af];refine dW 8 9 HH ?_;refine aj 10 HH ?_ (v:=.pointer (some ⟨L.gb,cc,none⟩));simp only[ag,af];refine av 11 ?_;refine mh 4 xA (.tmp 52) _ rfl rfl L.gb cc (s.tabs.map Value.bool) ((s.tabs.set cc true).map Value.bool) (.bool true) (by rw[List.length_map];exact htl) rfl rfl rfl rfl (by rw[List.map_set]) 4 HT0.tab ?_;intro u3 g3 k3;have T3:=HT0.Fu g3 k3;refine⟨⟨T3.c 43 _ rfl,by rw[←hcc];exact T3.c 27 _ rfl⟩,?_⟩;refine aC ?_;have HF:Hid (cO u3 L {s with tabs:=s.tabs.set cc true}∧Ch L.own w u3):=⟨T3,(⟨k3.os,k3.tape,k3.output,k3.size,k3.block⟩:Ch (· =L.gb) w u3).mono fun k _ e=>.inr (.inr (.inr (.inl e)))⟩;clear T3 k3 g3 HT0 HH;go_wp2_with fail;go_end0;exact⟨rfl,Next.of HF.o.1 HF.o.2⟩
 ·rw[show s.bare 99=TS.fresh s.rows s.ah from rfl];have l1:=sF L s w HT.o HI.o;have l3:=IJ s.rows s.ah w ⟨hr1,hr2⟩ ⟨hc1,hc2⟩;clear c28 f28 HU CU;go_enter func108,ntmps108;go_wp2_with (first|(go_at_call 147;refine l1.mono ?_;rintro e w1 ⟨rfl,hw1⟩;have hw2:=hw1.symm;subst hw2)|(go_at_call 92;refine l3.mono ?_;rintro e w3 ⟨L',rfl,t3,o3,b3⟩)|(refine fC rfl 164 (.tmp 61) rfl L'.tb rfl 164 _ (0,0) _ t3.blk underlying164 rfl L9 ?_)|(refine bK _ rfl 164 (.tmp 63) (.tmp 62) rfl L.tb (mg L s) (mg L' (TS.fresh s.rows s.ah)) rfl _ rfl rfl 164 ((b3.block _ hlt).trans HT.o.blk) rfl L9 (Ow _ _) ?_));intro u4 g4 k4 z4;have hn:∀k,L'.own k→k≠L.tb:=fun k hk=>by have:=o3 k hk;omega
  have T4:=t3.kept k4 hn;have hsep:=T4.sep;have T5:cO u4 {L' with tb:=L.tb} (TS.fresh s.rows s.ah):=⟨g4,T4.h0,T4.h1,T4.tab,⟨fun e=>hn _ (.inr (.inl rfl)) e.symm,fun e=>hn _ (.inr (.inr (.inl rfl))) e.symm,fun e=>hn _ (.inr (.inr (.inr (.inl rfl)))) e.symm,hsep.s01,hsep.s0g,hsep.s1g,fun h=>hn _ (.inr (.inr (.inr (.inr (.inl h))))) rfl,fun h=>hn _ (.inr (.inr (.inr (.inr (.inr h))))) rfl,hsep.gx,hsep.gy,hsep.s0y,hsep.s1x,hsep.xy⟩⟩
  have N:Next L w u4 (TS.fresh s.rows s.ah):=⟨{L' with tb:=L.tb},rfl,T5,(Ch.of_below b3).trans (k4.mono fun k _ e=>.inl e),fun k hk=>by
   rcases hk with e|e|e|e|e|e
   ·exact .inl (.inl e)
   ·exact .inr (o3 k (.inr (.inl e)))
   ·exact .inr (o3 k (.inr (.inr (.inl e))))
   ·exact .inr (o3 k (.inr (.inr (.inr (.inl e)))))
   ·exact .inr (o3 k (.inr (.inr (.inr (.inr (.inl e))))))
   ·exact .inr (o3 k (.inr (.inr (.inr (.inr (.inr e))))))⟩
  clear T4 T5 t3 g4 k4 b3 hsep;go_wp2_with fail;go_end0;exact⟨rfl,N⟩
 ·have e:s.bare f=s:=by unfold TS.bare;simp only[ai (show¬f=55 by omega),ai (show¬f=56 by omega),ai (show¬f=68 by omega),ai (show¬f=77 by omega),ai (show¬f=69 by omega),ai (show¬f=72 by omega),ai (show¬f=99 by omega)]
  rw[e];clear e;have b55:(f==55)=false:=by simp;omega
  have b56:(f==56)=false:=by simp;omega
  have b68:(f==68)=false:=by simp;omega
  have b77:(f==77)=false:=by simp;omega
  have b69:(f==69)=false:=by simp;omega
  have b72:(f==72)=false:=by simp;omega
  have b99:(f==99)=false:=by simp;omega
  have HF:Hid _:=hf;clear hf;go_enter func108,ntmps108;go_wp2_with fail;go_end0;exact⟨rfl,Next.of HT.o (Ch.refl _ _)⟩
theorem kD{g j:Nat}{ev:List Int}{t:TypeId}{fr:Nat × Nat}(h:u.heap[g]? =some (.cells (aA ev) t fr))(hj:j<ev.length):u.cell? ⟨g,j,none⟩=some (.int .i64 (ev.getD j 0)):=by rw[bG _ _ _ _ _ _ h,aA,CZ];exact jo ev j hj
theorem JM(L:Lay)(s:TS)(w:World)(ht:cO w L s)(hi:s.Inv)(ev:List Int)(hev:ev.length=21):Calls prog 57 #[.pointer (some ⟨L.tb,0,none⟩),.agg (aA ev)] w fun e w'=>e= .returned (.tuple #[])∧Next L w w' (s.escape (ev.getD 2 0) (ev.getD 3 0)):=by
 have HT0:=ht.sm ((Ch.refl (fun _=>False) w).alloc (.cells (aA ev) 46));have e2:(w.alloc (.cells (aA ev) 46)).cell? ⟨w.heap.size,2,none⟩=some (.int .i64 (ev.getD 2 0)):=kD (bV _ _) (by omega);have e3:(w.alloc (.cells (aA ev) 46)).cell? ⟨w.heap.size,3,none⟩=some (.int .i64 (ev.getD 3 0)):=kD (bV _ _) (by omega);have ng:Hid (Ch L.own w (w.alloc (.cells (aA ev) 46))):=(Ch.refl _ _).alloc _;have Di:Hid (¬L.own w.heap.size):=fun h=>by have:=ht.pQ h;omega
 have FP:Hid (w.heap.size<(w.alloc (.cells (aA ev) 46)).heap.size):=by show _<_;simp
 have hlt:=ht.lt;generalize ev.getD 2 0=mk at*;generalize ev.getD 3 0=fi at*;have HI:Hid s.Inv:=hi;clear ht hi;rcases(show mk=0∨mk=40∨mk=41∨¬(mk=0∨mk=40∨mk=41) by omega)with rfl|rfl|rfl|hm
 ·rw[show s.escape 0 fi=s.bare fi from rfl];have l1:=PZ L s _ HT0 HI.o fi;have HT:Hid _:=HT0;clear HT0;go_enter func57,ntmps57;go_wp2_with (go_at_call 108;refine l1.mono ?_;rintro e w1 ⟨rfl,n1⟩);go_end0;exact⟨rfl,Next.ahead ng.o n1⟩
 ·rw[show s.escape 40 fi= {s with first:=TS.dQ fi s.first} from rfl];have HT:Hid _:=HT0;clear HT0;go_enter func57,ntmps57;go_wp2_with fail;generalize hW:w.alloc (Obj.cells (aA ev) 46)=W at*;generalize hlb:w.heap.size=lb at*;have HT0:cO ({W with drawn:=W.drawn+1}:World) L s:=HT.o.sm ((Ch.refl _ _).drewN 1);have HH:World.cell? ({W with drawn:=W.drawn+1}:World) ⟨lb,3,none⟩=some (.int .i64 fi):=e3;refine dX (S:=fun x=>x.cell? ⟨lb,3,none⟩=some (.int .i64 fi)) aX ?_;refine ay 0 1 2 3 HH ?_;simp only[ag,af];refine ay 4 5 6 7 HH ?_;simp only[ag,af];refine av 8 ?_;refine qz 22 (.tmp 21) rfl rfl _ s.first rfl (HT0.c 34 _ rfl) ?_;refine⟨HH,?_⟩;simp only[ag,af];refine av 9 ?_;refine dN (vs:=[.int .i64 fi,.int .i64 s.first]) (x9 _ _ _) ?_;rintro v2 w9 ⟨rfl,rfl⟩;refine⟨HH,?_⟩;simp only[ag,af];refine ay 10 11 12 13 HH ?_;simp only[ag,af];refine av 14 ?_;refine Ck 3 zq (.tmp 27) (.tmp 23) rfl rfl L s {s with first:=TS.dQ fi s.first} 34 (.int .i64 (TS.dQ fi s.first)) rfl rfl rfl rfl HT0 (by omega) rfl rfl rfl rfl rfl ?_;intro u' ht' uG hcell;refine⟨(dA (uG.block lb FP.o (fun h=>Di.o h))).trans HH,?_⟩;clear hcell;refine aC ?_;have HF:Hid (cO u' L {s with first:=TS.dQ fi s.first}∧Ch L.own W u'):=⟨ht',⟨uG.os,uG.tape,uG.output,uG.size,uG.block⟩⟩;clear ht' uG HT0 HH;go_wp2_with fail;go_end0;exact⟨rfl,Next.ahead ng.o (Next.of HF.o.1 HF.o.2)⟩
 ·rw[show s.escape 41 fi= {s with second:=TS.dQ fi s.second} from rfl];have HT:Hid _:=HT0;clear HT0;go_enter func57,ntmps57;go_wp2_with fail;generalize hW:w.alloc (Obj.cells (aA ev) 46)=W at*;generalize hlb:w.heap.size=lb at*;have HT0:cO ({W with drawn:=W.drawn+1}:World) L s:=HT.o.sm ((Ch.refl _ _).drewN 1);have HH:World.cell? ({W with drawn:=W.drawn+1}:World) ⟨lb,3,none⟩=some (.int .i64 fi):=e3;refine dX (S:=fun x=>x.cell? ⟨lb,3,none⟩=some (.int .i64 fi)) aX ?_;refine ay 0 1 2 3 HH ?_;simp only[ag,af];refine ay 4 5 6 7 HH ?_;simp only[ag,af];refine av 8 ?_;refine qz 38 (.tmp 37) rfl rfl _ s.second rfl (HT0.c 35 _ rfl) ?_;refine⟨HH,?_⟩;simp only[ag,af];refine av 9 ?_;refine dN (vs:=[.int .i64 fi,.int .i64 s.second]) (x9 _ _ _) ?_;rintro v2 w9 ⟨rfl,rfl⟩;refine⟨HH,?_⟩;simp only[ag,af];refine ay 10 11 12 13 HH ?_;simp only[ag,af];refine av 14 ?_;refine Ck 3 zq (.tmp 43) (.tmp 39) rfl rfl L s {s with second:=TS.dQ fi s.second} 35 (.int .i64 (TS.dQ fi s.second)) rfl rfl rfl rfl HT0 (by omega) rfl rfl rfl rfl rfl ?_;intro u' ht' uG hcell;refine⟨(dA (uG.block lb FP.o (fun h=>Di.o h))).trans HH,?_⟩;clear hcell;refine aC ?_;have HF:Hid (cO u' L {s with second:=TS.dQ fi s.second}∧Ch L.own W u'):=⟨ht',⟨uG.os,uG.tape,uG.output,uG.size,uG.block⟩⟩;clear ht' uG HT0 HH;go_wp2_with fail;go_end0;exact⟨rfl,Next.ahead ng.o (Next.of HF.o.1 HF.o.2)⟩
 ·have e:s.escape mk fi=s:=by unfold TS.escape;simp only[ai (show¬mk=0 by omega),ai (show¬mk=40 by omega),ai (show¬mk=41 by omega)]
  rw[e];have b0:(mk==0)=false:=by simp;omega
  have b1:(mk==40)=false:=by simp;omega
  have b2:(mk==41)=false:=by simp;omega
  have HT:Hid _:=HT0;clear HT0 e hm;go_enter func57,ntmps57;go_wp2_with fail;go_end0;exact⟨rfl,Next.ahead ng.o (Next.of HT.o (Ch.refl _ _))⟩
theorem Rf(L:Lay)(s:TS)(w:World)(ht:cO w L s)(hi:s.Inv)(ev:List Int)(hev:ev.length=21)(h5: -1≤ev.getD 5 0∧ev.getD 5 0≤65535)(h6: -1≤ev.getD 6 0∧ev.getD 6 0≤65535):Calls prog 111 #[.pointer (some ⟨L.tb,0,none⟩),.agg (aA ev)] w fun e w'=>e= .returned (.tuple #[])∧cO w' L (s.move (ev.getD 3 0) (ev.getD 5 0) (ev.getD 6 0))∧Ch L.own w w':=by
 have HT0:=ht.sm ((Ch.refl (fun _=>False) w).alloc (.cells (aA ev) 46));have e3:(w.alloc (.cells (aA ev) 46)).cell? ⟨w.heap.size,3,none⟩=some (.int .i64 (ev.getD 3 0)):=kD (bV _ _) (by omega);have e5:(w.alloc (.cells (aA ev) 46)).cell? ⟨w.heap.size,5,none⟩=some (.int .i64 (ev.getD 5 0)):=kD (bV _ _) (by omega);have e6:(w.alloc (.cells (aA ev) 46)).cell? ⟨w.heap.size,6,none⟩=some (.int .i64 (ev.getD 6 0)):=kD (bV _ _) (by omega);have ng:Hid (Ch L.own w (w.alloc (.cells (aA ev) 46))):=(Ch.refl _ _).alloc _;have hlt:=ht.lt;have Di:Hid (¬L.own w.heap.size):=fun h=>by have:=ht.pQ h;omega
 generalize ev.getD 3 0=f at*;generalize ev.getD 5 0=p0 at*;generalize ev.getD 6 0=p1 at*;have HI:Hid s.Inv:=hi;have HT:Hid _:=HT0;have c27:=HT0.c 27 _ rfl;have hn:1≤TS.times p0∧TS.times p0≤65535:=by unfold TS.times;omega
 have hm:1≤TS.times p1∧TS.times p1≤65535:=by unfold TS.times;omega
 have U8:∀u,_:=fun u=>iA p0 u;have lt1:∀u,_:=fun u=>iA p1 u;have hco:=hi.jA;have hc1:=hi.jD;have hc2:=hi.c2;have va:IntKind.i64.wrap (s.col+TS.times p0)=s.col+TS.times p0:=bD _ (by omega);have vb:IntKind.i64.wrap (s.col-TS.times p0)=s.col-TS.times p0:=bD _ (by omega);have vc:IntKind.i64.wrap (TS.times p0-1)=TS.times p0-1:=bD _ (by omega);have vd:IntKind.i64.wrap (TS.times p1-1)=TS.times p1-1:=bD _ (by omega);clear ht hi HT0;rcases(show f=65∨f=66∨f=67∨f=68∨f=71∨f=100∨f=72∨f=102∨¬(f=65∨f=66∨f=67∨f=68∨f=71∨f=100∨f=72∨f=102) by omega)with rfl|rfl|rfl|rfl|rfl|rfl|rfl|rfl|hf
 ·rw[show s.move 65 p0 p1=s.rise (TS.times p0) from rfl];have l1:=Rv L s _ HT.o HI.o (TS.times p0) (by omega);generalize TS.times p0=n at*;generalize TS.times p1=m at*;go_enter func111,ntmps111;go_wp2_with (first|(go_at_call 179;refine(U8 _).mono ?_;rintro e w1 ⟨rfl,hw1⟩;have hw2:=hw1.symm;subst hw2)|(go_at_call 180;refine l1.mono ?_;rintro e w9 ⟨rfl,h1,c1⟩));go_end0;exact⟨rfl,h1,ng.o.trans c1⟩
 ·rw[show s.move 66 p0 p1=s.sink (TS.times p0) from rfl];have l1:=RP L s _ HT.o HI.o (TS.times p0) (by omega);generalize TS.times p0=n at*;generalize TS.times p1=m at*;go_enter func111,ntmps111;go_wp2_with (first|(go_at_call 179;refine(U8 _).mono ?_;rintro e w1 ⟨rfl,hw1⟩;have hw2:=hw1.symm;subst hw2)|(go_at_call 181;refine l1.mono ?_;rintro e w9 ⟨rfl,h1,c1⟩));go_end0;exact⟨rfl,h1,ng.o.trans c1⟩
 ·rw[show s.move 67 p0 p1=s.bQ (s.col+TS.times p0) from rfl];have l1:=iN L s _ HT.o HI.o (s.col+TS.times p0);generalize TS.times p0=n at*;generalize TS.times p1=m at*;go_enter func111,ntmps111;go_wp2_with (first|(go_at_call 179;refine(U8 _).mono ?_;rintro e w1 ⟨rfl,hw1⟩;have hw2:=hw1.symm;subst hw2)|(go_at_call 104;refine l1.mono ?_;rintro e w9 ⟨rfl,h1,c1⟩));go_end0;exact⟨rfl,h1,ng.o.trans c1⟩
 ·rw[show s.move 68 p0 p1=s.bQ (s.col-TS.times p0) from rfl];have l1:=iN L s _ HT.o HI.o (s.col-TS.times p0);generalize TS.times p0=n at*;generalize TS.times p1=m at*;go_enter func111,ntmps111;go_wp2_with (first|(go_at_call 179;refine(U8 _).mono ?_;rintro e w1 ⟨rfl,hw1⟩;have hw2:=hw1.symm;subst hw2)|(go_at_call 104;refine l1.mono ?_;rintro e w9 ⟨rfl,h1,c1⟩));go_end0;exact⟨rfl,h1,ng.o.trans c1⟩
 ·rw[show s.move 71 p0 p1=s.bQ (TS.times p0-1) from rfl];have l1:=iN L s _ HT.o HI.o (TS.times p0-1);generalize TS.times p0=n at*;generalize TS.times p1=m at*;go_enter func111,ntmps111;go_wp2_with (first|(go_at_call 179;refine(U8 _).mono ?_;rintro e w1 ⟨rfl,hw1⟩;have hw2:=hw1.symm;subst hw2)|(go_at_call 104;refine l1.mono ?_;rintro e w9 ⟨rfl,h1,c1⟩));go_end0;exact⟨rfl,h1,ng.o.trans c1⟩
 ·rw[show s.move 100 p0 p1=s.bJ (TS.times p0-1) from rfl];have l1:=oZ L s _ HT.o HI.o (TS.times p0-1) (by omega);generalize TS.times p0=n at*;generalize TS.times p1=m at*;go_enter func111,ntmps111;go_wp2_with (first|(go_at_call 179;refine(U8 _).mono ?_;rintro e w1 ⟨rfl,hw1⟩;have hw2:=hw1.symm;subst hw2)|(go_at_call 182;refine l1.mono ?_;rintro e w9 ⟨rfl,h1,c1⟩));go_end0;exact⟨rfl,h1,ng.o.trans c1⟩
 ·rw[show s.move 72 p0 p1=(s.bJ (TS.times p0-1)).bQ (TS.times p1-1) from rfl];have l1:=oZ L s _ HT.o HI.o (TS.times p0-1) (by omega);have l2:∀u,cO u L (s.bJ (TS.times p0-1))→_:=fun u hu=>iN L (s.bJ (TS.times p0-1)) u hu (HI.o.bJ _) (TS.times p1-1);generalize TS.times p0=n at*;generalize TS.times p1=m at*;have FP:Hid (w.heap.size<(w.alloc (.cells (aA ev) 46)).heap.size):=by show _<_;simp
  go_enter func111,ntmps111;go_wp2_with (first|(go_at_call 179;refine(lt1 _).mono ?_;rintro e w1 ⟨rfl,hw1⟩;have hq:=h1;have hw2:=hw1.symm;subst hw2)|(go_at_call 179;refine(U8 _).mono ?_;rintro e w1 ⟨rfl,hw1⟩;have hw2:=hw1.symm;subst hw2)|(go_at_call 182;refine l1.mono ?_;rintro e w8 ⟨rfl,h1,c1⟩;have e6':=(dA (c1.block w.heap.size FP.o Di.o)).trans e6)|(go_at_call 104;refine(l2 _ h1).mono ?_;rintro e w9 ⟨rfl,h2,c2⟩));go_end0;exact⟨rfl,h2,ng.o.trans (c1.trans c2)⟩
 ·rw[show s.move 102 p0 p1=(s.bJ (TS.times p0-1)).bQ (TS.times p1-1) from rfl];have l1:=oZ L s _ HT.o HI.o (TS.times p0-1) (by omega);have l2:∀u,cO u L (s.bJ (TS.times p0-1))→_:=fun u hu=>iN L (s.bJ (TS.times p0-1)) u hu (HI.o.bJ _) (TS.times p1-1);generalize TS.times p0=n at*;generalize TS.times p1=m at*;have FP:Hid (w.heap.size<(w.alloc (.cells (aA ev) 46)).heap.size):=by show _<_;simp
  go_enter func111,ntmps111;go_wp2_with (first|(go_at_call 179;refine(lt1 _).mono ?_;rintro e w1 ⟨rfl,hw1⟩;have hq:=h1;have hw2:=hw1.symm;subst hw2)|(go_at_call 179;refine(U8 _).mono ?_;rintro e w1 ⟨rfl,hw1⟩;have hw2:=hw1.symm;subst hw2)|(go_at_call 182;refine l1.mono ?_;rintro e w8 ⟨rfl,h1,c1⟩;have e6':=(dA (c1.block w.heap.size FP.o Di.o)).trans e6)|(go_at_call 104;refine(l2 _ h1).mono ?_;rintro e w9 ⟨rfl,h2,c2⟩));go_end0;exact⟨rfl,h2,ng.o.trans (c1.trans c2)⟩
 ·have e:s.move f p0 p1=s:=by unfold TS.move;simp only[ai (show¬f=65 by omega),ai (show¬f=66 by omega),ai (show¬f=67 by omega),ai (show¬f=68 by omega),ai (show¬f=71 by omega),ai (show¬f=100 by omega),ai (show¬(f=72∨f=102) by omega)]
  rw[e];have b65:(f==65)=false:=by simp;omega
  have b66:(f==66)=false:=by simp;omega
  have b67:(f==67)=false:=by simp;omega
  have b68:(f==68)=false:=by simp;omega
  have b71:(f==71)=false:=by simp;omega
  have b100:(f==100)=false:=by simp;omega
  have b72:(f==72)=false:=by simp;omega
  have b102:(f==102)=false:=by simp;omega
  clear e hf;generalize TS.times p0=n at*;generalize TS.times p1=m at*;go_enter func111,ntmps111;go_wp2_with (go_at_call 179;refine(U8 _).mono ?_;rintro e w1 ⟨rfl,hw1⟩;have hw2:=hw1.symm;subst hw2);go_end0;exact⟨rfl,HT.o,ng.o⟩
def xL:List (Int × Int × Int):=[(0,31,0),(127,159,0),(768,879,0),(4352,4447,2),(8203,8207,0),(11904,42191,2),(44032,55203,2),(63744,64255,2),(65024,65039,0),(65072,65135,2),(65280,65376,2),(65504,65510,2),(127744,128591,2),(131072,262141,2)]
def oK (c:Int):List (Int × Int × Int)→Int
 | []=>1
 |(a,b,x)::r=>if a≤c∧c≤b then x else oK c r
def j_ (c:Int):Int:=oK c xL
def fT:Array Value:=#[.int .i64 0,.int .i64 31,.int .i64 0,.int .i64 127,.int .i64 159,.int .i64 0,.int .i64 768,.int .i64 879,.int .i64 0,.int .i64 4352,.int .i64 4447,.int .i64 2,.int .i64 8203,.int .i64 8207,.int .i64 0,.int .i64 11904,.int .i64 42191,.int .i64 2,.int .i64 44032,.int .i64 55203,.int .i64 2,.int .i64 63744,.int .i64 64255,.int .i64 2,.int .i64 65024,.int .i64 65039,.int .i64 0,.int .i64 65072,.int .i64 65135,.int .i64 2,.int .i64 65280,.int .i64 65376,.int .i64 2,.int .i64 65504,.int .i64 65510,.int .i64 2,.int .i64 127744,.int .i64 128591,.int .i64 2,.int .i64 131072,.int .i64 262141,.int .i64 2]
def A9 (w:World):Prop:=∃t fr,w.heap[1]? =some (.cells fT t fr)
theorem A9.kept{w w':World}(h:A9 w)(hb:w'.heap[1]? =w.heap[1]?):A9 w':=by obtain⟨t,fr,h⟩:=h;exact⟨t,fr,hb.trans h⟩
def We:Array Value:=#[.int .i64 0,.int .i64 127,.int .i64 768,.int .i64 4352,.int .i64 8203,.int .i64 11904,.int .i64 44032,.int .i64 63744,.int .i64 65024,.int .i64 65072,.int .i64 65280,.int .i64 65504,.int .i64 127744,.int .i64 131072]
def V7:Array Value:=#[.int .i64 31,.int .i64 159,.int .i64 879,.int .i64 4447,.int .i64 8207,.int .i64 42191,.int .i64 55203,.int .i64 64255,.int .i64 65039,.int .i64 65135,.int .i64 65376,.int .i64 65510,.int .i64 128591,.int .i64 262141]
def Wp:Array Value:=#[.int .i64 0,.int .i64 0,.int .i64 0,.int .i64 2,.int .i64 0,.int .i64 2,.int .i64 2,.int .i64 2,.int .i64 0,.int .i64 2,.int .i64 2,.int .i64 2,.int .i64 2,.int .i64 2]
theorem YG:(prog.info? 208).map (·.size)=some fT.size:=by kernel_rfl
theorem acU(w:World):(Instr.index 208 (.agg fT) (.int .i64 0)).run prog w= .ok (.agg #[.int .i64 0,.int .i64 31,.int .i64 0]) w:=by kernel_rfl
theorem acV(w:World):(Instr.index 208 (.agg fT) (.int .i64 1)).run prog w= .ok (.agg #[.int .i64 127,.int .i64 159,.int .i64 0]) w:=by kernel_rfl
theorem acW(w:World):(Instr.index 208 (.agg fT) (.int .i64 2)).run prog w= .ok (.agg #[.int .i64 768,.int .i64 879,.int .i64 0]) w:=by kernel_rfl
theorem acX(w:World):(Instr.index 208 (.agg fT) (.int .i64 3)).run prog w= .ok (.agg #[.int .i64 4352,.int .i64 4447,.int .i64 2]) w:=by kernel_rfl
theorem acY(w:World):(Instr.index 208 (.agg fT) (.int .i64 4)).run prog w= .ok (.agg #[.int .i64 8203,.int .i64 8207,.int .i64 0]) w:=by kernel_rfl
theorem acZ(w:World):(Instr.index 208 (.agg fT) (.int .i64 5)).run prog w= .ok (.agg #[.int .i64 11904,.int .i64 42191,.int .i64 2]) w:=by kernel_rfl
theorem ac0(w:World):(Instr.index 208 (.agg fT) (.int .i64 6)).run prog w= .ok (.agg #[.int .i64 44032,.int .i64 55203,.int .i64 2]) w:=by kernel_rfl
theorem ac1(w:World):(Instr.index 208 (.agg fT) (.int .i64 7)).run prog w= .ok (.agg #[.int .i64 63744,.int .i64 64255,.int .i64 2]) w:=by kernel_rfl
theorem ac2(w:World):(Instr.index 208 (.agg fT) (.int .i64 8)).run prog w= .ok (.agg #[.int .i64 65024,.int .i64 65039,.int .i64 0]) w:=by kernel_rfl
theorem ac3(w:World):(Instr.index 208 (.agg fT) (.int .i64 9)).run prog w= .ok (.agg #[.int .i64 65072,.int .i64 65135,.int .i64 2]) w:=by kernel_rfl
theorem YU(w:World):(Instr.index 208 (.agg fT) (.int .i64 10)).run prog w= .ok (.agg #[.int .i64 65280,.int .i64 65376,.int .i64 2]) w:=by kernel_rfl
theorem YV(w:World):(Instr.index 208 (.agg fT) (.int .i64 11)).run prog w= .ok (.agg #[.int .i64 65504,.int .i64 65510,.int .i64 2]) w:=by kernel_rfl
theorem YW(w:World):(Instr.index 208 (.agg fT) (.int .i64 12)).run prog w= .ok (.agg #[.int .i64 127744,.int .i64 128591,.int .i64 2]) w:=by kernel_rfl
theorem YX(w:World):(Instr.index 208 (.agg fT) (.int .i64 13)).run prog w= .ok (.agg #[.int .i64 131072,.int .i64 262141,.int .i64 2]) w:=by kernel_rfl
theorem RZ(k:Nat)(hk:k<14):
 ∃a b x:Int,(∀w,(Instr.index 208 (.agg fT) (.int .i64 k)).run prog w= .ok (.agg #[.int .i64 a,.int .i64 b,.int .i64 x]) w)∧
  xL.drop k=(a,b,x)::xL.drop (k+1)∧We[k]? =some (.int .i64 a)∧V7[k]? =some (.int .i64 b)∧Wp[k]? =some (.int .i64 x):=by
 match k,hk with
 | 0,_=>exact⟨_,_,_,acU,rfl,rfl,rfl,rfl⟩
 | 1,_=>exact⟨_,_,_,acV,rfl,rfl,rfl,rfl⟩
 | 2,_=>exact⟨_,_,_,acW,rfl,rfl,rfl,rfl⟩
 | 3,_=>exact⟨_,_,_,acX,rfl,rfl,rfl,rfl⟩
 | 4,_=>exact⟨_,_,_,acY,rfl,rfl,rfl,rfl⟩
 | 5,_=>exact⟨_,_,_,acZ,rfl,rfl,rfl,rfl⟩
 | 6,_=>exact⟨_,_,_,ac0,rfl,rfl,rfl,rfl⟩
 | 7,_=>exact⟨_,_,_,ac1,rfl,rfl,rfl,rfl⟩
 | 8,_=>exact⟨_,_,_,ac2,rfl,rfl,rfl,rfl⟩
 | 9,_=>exact⟨_,_,_,ac3,rfl,rfl,rfl,rfl⟩
 | 10,_=>exact⟨_,_,_,YU,rfl,rfl,rfl,rfl⟩
 | 11,_=>exact⟨_,_,_,YV,rfl,rfl,rfl,rfl⟩
 | 12,_=>exact⟨_,_,_,YW,rfl,rfl,rfl,rfl⟩
 | 13,_=>exact⟨_,_,_,YX,rfl,rfl,rfl,rfl⟩
 |n+14,h=>omega
theorem Dv{c:Int}{l:List (Int × Int × Int)}(e:l=(a,b,x)::r)(h1:a≤c)(h2:c≤b):oK c l=x:=by rw[e];simp only[oK];rw[ak ⟨h1,h2⟩]
theorem tN{c:Int}{l:List (Int × Int × Int)}(e:l=(a,b,x)::r)(h:¬(a≤c∧c≤b)):oK c l=oK c r:=by rw[e];simp only[oK];rw[ai h]
theorem La(c:Int)(w:World)(hsp:A9 w):
 Calls prog 98 #[.int .i64 c] w fun e w'=>e= .returned (.int .i64 (j_ c))∧Below w.heap.size w w':=by
 obtain⟨lt,lfr,uR⟩:=hsp;have HL:Hid _:=uR;clear uR;go_enter func98,ntmps98;go_wp2_with (refine fC rfl 208 _ rfl 1 rfl lt fT lfr _ HL.o underlying208 rfl YG ?_);go_loopw [6] (fun i wr=>∃k:Nat,k≤14∧i= .int .i64 k∧Below w.heap.size w wr∧Hid (oK c (xL.drop k)=j_ c)) (fun i _=>14-(intOf i).toNat)
 case atStart=>exact⟨0,dx _,rfl,dU _ _,rfl⟩
 case round=>
  obtain⟨k,hk,rfl,hbel,hno⟩:=hrel;by_cases hlt:k<14
  ·obtain⟨a,b,x,hidx,hdr,_,_,_⟩:=RZ k hlt;have HD:Hid _:=hdr;clear hdr;go_wp2_with fail
   ·have h1:a≤c:=by assumption
    have h2:c≤b:=by assumption
    go_ret;exact⟨by rw[←hno.o,Dv HD.o h1 h2];rfl,hbel.alloc hbel.size _⟩
   ·have h2:b<c:=by assumption
    go_roundw
    case rel=>exact⟨k+1,by omega,by go_num,hbel.alloc hbel.size _,by rw[←hno.o,tN HD.o (by omega)];rfl⟩
    case measure=>simp[intOf];omega
   ·have h2:¬a≤c:=by assumption
    go_roundw
    case rel=>exact⟨k+1,by omega,by go_num,hbel.alloc hbel.size _,by rw[←hno.o,tN HD.o (by omega)];rfl⟩
    case measure=>simp[intOf];omega
  ·have Yt:k=14:=by omega
   subst Yt;go_wp2_with fail;go_ret;exact⟨by rw[←hno.o];rfl,hbel⟩
theorem QS(w:World)(a b c:Obj):(((w.alloc a).alloc b).alloc c).heap[w.heap.size]? =some a∧(((w.alloc a).alloc b).alloc c).heap[w.heap.size+1]? =some b∧(((w.alloc a).alloc b).alloc c).heap[w.heap.size+2]? =some c:=by
 have z1:(w.alloc a).heap.size=w.heap.size+1:=by simp
 have z2:((w.alloc a).alloc b).heap.size=w.heap.size+2:=by simp
 refine⟨?_,?_,?_⟩
 ·exact(gK _ c _ (by omega)).trans ((gK _ b _ (by omega)).trans (bV w a))
 ·exact(gK _ c _ (by omega)).trans (z1▸bV (w.alloc a) b)
 ·exact z2▸bV ((w.alloc a).alloc b) c
theorem qo(c:Int)(w:World):
 Calls prog 120 #[.int .i64 c] w fun e w'=>e= .returned (.int .i64 (j_ c))∧Below w.heap.size w w':=by
 go_enter func120,ntmps120;go_wp2_with fail
 go_loopw [6] (fun i wr=>∃k:Nat,k≤14∧i= .int .i64 k∧Below w.heap.size w wr∧Hid (oK c (xL.drop k)=j_ c)∧
  wr.heap[w.heap.size]? =some (.cells We 3 (0,0))∧wr.heap[w.heap.size+1]? =some (.cells V7 3 (0,0))∧wr.heap[w.heap.size+2]? =some (.cells Wp 3 (0,0))) (fun i _=>14-(intOf i).toNat)
 case atStart=>
  refine⟨0,dx _,rfl,(((dU _ _).alloc (bN _) _).alloc (by simp) _).alloc (by simp;omega) _,rfl,?_,?_,?_⟩
  ·exact(QS _ _ _ _).1
  ·exact(QS _ _ _ _).2.1
  ·exact(QS _ _ _ _).2.2
 case round=>
  obtain⟨k,hk,rfl,hbel,hno,e1,e2,e3⟩:=hrel;by_cases hlt:k<14
  ·obtain⟨a,b,x,_,hdr,q1,q2,q3⟩:=RZ k hlt;have HD:Hid _:=hdr;clear hdr;have c1:=(bG _ _ k _ _ _ e1).trans q1;have c2:=(bG _ _ k _ _ _ e2).trans q2;have c3:=(bG _ _ k _ _ _ e3).trans q3;have E1:Hid _:=e1;have E2:Hid _:=e2;have E3:Hid _:=e3;clear e1 e2 e3 q1 q2 q3;go_wp2_with fail
   ·have h1:a≤c:=by assumption
    have h2:c≤b:=by assumption
    go_ret;exact⟨by rw[←hno.o,Dv HD.o h1 h2];rfl,hbel⟩
   ·have h2:b<c:=by assumption
    go_roundw
    case rel=>exact⟨k+1,by omega,by go_num,hbel,by rw[←hno.o,tN HD.o (by omega)];rfl,E1.o,E2.o,E3.o⟩
    case measure=>simp[intOf];omega
   ·have h2:¬a≤c:=by assumption
    go_roundw
    case rel=>exact⟨k+1,by omega,by go_num,hbel,by rw[←hno.o,tN HD.o (by omega)];rfl,E1.o,E2.o,E3.o⟩
    case measure=>simp[intOf];omega
  ·have Yt:k=14:=by omega
   subst Yt;clear e1 e2 e3;go_wp2_with fail;go_ret;exact⟨by rw[←hno.o];rfl,hbel⟩
def sH:List (Int × Int):=[(106,9496),(107,9488),(108,9484),(109,9492),(110,9532),(113,9472),(116,9500),(117,9508),(118,9524),(119,9516),(120,9474)]
def rJ (c:Int):List (Int × Int)→Int
 | []=>c
 |(a,b)::r=>if a=c then b else rJ c r
theorem J5(c:Int):rJ c sH=TS.mY c:=by simp only[rJ,sH,TS.mY,eq_comm (a:=c)]
def eY:Array Value:=#[.int .i64 106,.int .i64 9496,.int .i64 107,.int .i64 9488,.int .i64 108,.int .i64 9484,.int .i64 109,.int .i64 9492,.int .i64 110,.int .i64 9532,.int .i64 113,.int .i64 9472,.int .i64 116,.int .i64 9500,.int .i64 117,.int .i64 9508,.int .i64 118,.int .i64 9524,.int .i64 119,.int .i64 9516,.int .i64 120,.int .i64 9474]
def mE (w:World):Prop:=∃t fr,w.heap[2]? =some (.cells eY t fr)
theorem mE.kept{w w':World}(h:mE w)(hb:w'.heap[2]? =w.heap[2]?):mE w':=by obtain⟨t,fr,h⟩:=h;exact⟨t,fr,hb.trans h⟩
theorem UW:(prog.info? 237).map (·.size)=some eY.size:=by kernel_rfl
theorem acs(w:World):(Instr.index 237 (.agg eY) (.int .i64 0)).run prog w= .ok (.agg #[.int .i64 106,.int .i64 9496]) w:=by kernel_rfl
theorem acu(w:World):(Instr.index 237 (.agg eY) (.int .i64 1)).run prog w= .ok (.agg #[.int .i64 107,.int .i64 9488]) w:=by kernel_rfl
theorem acv(w:World):(Instr.index 237 (.agg eY) (.int .i64 2)).run prog w= .ok (.agg #[.int .i64 108,.int .i64 9484]) w:=by kernel_rfl
theorem acw(w:World):(Instr.index 237 (.agg eY) (.int .i64 3)).run prog w= .ok (.agg #[.int .i64 109,.int .i64 9492]) w:=by kernel_rfl
theorem acy(w:World):(Instr.index 237 (.agg eY) (.int .i64 4)).run prog w= .ok (.agg #[.int .i64 110,.int .i64 9532]) w:=by kernel_rfl
theorem acz(w:World):(Instr.index 237 (.agg eY) (.int .i64 5)).run prog w= .ok (.agg #[.int .i64 113,.int .i64 9472]) w:=by kernel_rfl
theorem acA(w:World):(Instr.index 237 (.agg eY) (.int .i64 6)).run prog w= .ok (.agg #[.int .i64 116,.int .i64 9500]) w:=by kernel_rfl
theorem acB(w:World):(Instr.index 237 (.agg eY) (.int .i64 7)).run prog w= .ok (.agg #[.int .i64 117,.int .i64 9508]) w:=by kernel_rfl
theorem acC(w:World):(Instr.index 237 (.agg eY) (.int .i64 8)).run prog w= .ok (.agg #[.int .i64 118,.int .i64 9524]) w:=by kernel_rfl
theorem acD(w:World):(Instr.index 237 (.agg eY) (.int .i64 9)).run prog w= .ok (.agg #[.int .i64 119,.int .i64 9516]) w:=by kernel_rfl
theorem YP(w:World):(Instr.index 237 (.agg eY) (.int .i64 10)).run prog w= .ok (.agg #[.int .i64 120,.int .i64 9474]) w:=by kernel_rfl
theorem Si(k:Nat)(hk:k<11):∃a b:Int,(∀w,(Instr.index 237 (.agg eY) (.int .i64 k)).run prog w= .ok (.agg #[.int .i64 a,.int .i64 b]) w)∧sH.drop k=(a,b)::sH.drop (k+1):=by
 match k,hk with
 | 0,_=>exact⟨_,_,acs,rfl⟩
 | 1,_=>exact⟨_,_,acu,rfl⟩
 | 2,_=>exact⟨_,_,acv,rfl⟩
 | 3,_=>exact⟨_,_,acw,rfl⟩
 | 4,_=>exact⟨_,_,acy,rfl⟩
 | 5,_=>exact⟨_,_,acz,rfl⟩
 | 6,_=>exact⟨_,_,acA,rfl⟩
 | 7,_=>exact⟨_,_,acB,rfl⟩
 | 8,_=>exact⟨_,_,acC,rfl⟩
 | 9,_=>exact⟨_,_,acD,rfl⟩
 | 10,_=>exact⟨_,_,YP,rfl⟩
 |n+11,h=>omega
theorem JO{c:Int}{l r:List (Int × Int)}(e:l=(a,b)::r)(h:a=c):rJ c l=b:=by rw[e];simp only[rJ];rw[ak h]
theorem GL{c:Int}{l r:List (Int × Int)}(e:l=(a,b)::r)(h:¬a=c):rJ c l=rJ c r:=by rw[e];simp only[rJ];rw[ai h]
theorem Nt(c:Int)(w:World)(hsp:mE w):Calls prog 170 #[.int .i64 c] w fun e w'=>e= .returned (.int .i64 (TS.mY c))∧Below w.heap.size w w':=by
 obtain⟨lt,lfr,uR⟩:=hsp;have HL:Hid _:=uR;clear uR;rw[←J5];go_enter func170,ntmps170;go_wp2_with (refine fC rfl 237 _ rfl 2 rfl lt eY lfr _ HL.o underlying237 rfl UW ?_);go_loopw [6] (fun i wr=>∃k:Nat,k≤11∧i= .int .i64 k∧Below w.heap.size w wr∧Hid (rJ c (sH.drop k)=rJ c sH)) (fun i _=>11-(intOf i).toNat)
 case atStart=>exact⟨0,dx _,rfl,dU _ _,rfl⟩
 case round=>
  obtain⟨k,hk,rfl,hbel,hno⟩:=hrel;by_cases hlt:k<11
  ·obtain⟨a,b,hidx,hdr⟩:=Si k hlt;have HD:Hid _:=hdr;clear hdr;by_cases hac:a=c
   ·have bq:(a==c)=true:=by simp[hac]
    have HA:Hid _:=hac;clear hac;go_wp2_with fail;go_ret;exact⟨by rw[←hno.o,JO HD.o HA.o];rfl,hbel.alloc hbel.size _⟩
   ·have bq:(a==c)=false:=by simp[hac]
    go_wp2_with fail;go_roundw
    case rel=>exact⟨k+1,by omega,by go_num,hbel.alloc hbel.size _,by rw[←hno.o,GL HD.o hac];rfl⟩
    case measure=>simp[intOf];omega
  ·have Yt:k=11:=by omega
   subst Yt;go_wp2_with fail;go_ret;exact⟨by rw[←hno.o];rfl,hbel⟩
theorem D_(L:Lay)(s:TS)(w:World)(ht:cO w L s)(hst:mE w)(c:Int):Calls prog 103 #[.pointer (some ⟨L.tb,0,none⟩),.int .i64 c] w fun e w'=>e= .returned (.int .i64 (s.spelt c))∧Sm w w':=by
 have c34:=ht.c 34 _ rfl;have c35:=ht.c 35 _ rfl;have c36:=ht.c 36 _ rfl;have l1:=Nt c w hst;have hX:s.spelt c=if(if s.use=1 then s.second else s.first)=1 then TS.mY c else c:=rfl;generalize s.spelt c=X at*;clear ht hst;by_cases hu:s.use=1
 ·rw[ak hu]at hX;have bu:(s.use==1)=true:=by simp[hu]
  by_cases ha:s.second=1
  ·rw[ak ha]at hX;have ba:(s.second==1)=true:=by simp[ha]
   have HX:Hid _:=hX;clear hX hu ha;go_enter func103,ntmps103;go_wp2_with (go_at_call 170;refine l1.mono ?_;rintro e w1 ⟨rfl,b1⟩);go_ret;exact⟨by rw[HX.o];rfl,Ch.of_below b1⟩
  ·rw[ai ha]at hX;have ba:(s.second==1)=false:=by simp[ha]
   have HX:Hid _:=hX;clear hX hu ha;go_enter func103,ntmps103;go_wp2_with fail;go_ret;exact⟨by rw[HX.o];rfl,Ch.refl _ _⟩
 ·rw[ai hu]at hX;have bu:(s.use==1)=false:=by simp[hu]
  by_cases ha:s.first=1
  ·rw[ak ha]at hX;have ba:(s.first==1)=true:=by simp[ha]
   have HX:Hid _:=hX;clear hX hu ha;go_enter func103,ntmps103;go_wp2_with (go_at_call 170;refine l1.mono ?_;rintro e w1 ⟨rfl,b1⟩);go_ret;exact⟨by rw[HX.o];rfl,Ch.of_below b1⟩
  ·rw[ai ha]at hX;have ba:(s.first==1)=false:=by simp[ha]
   have HX:Hid _:=hX;clear hX hu ha;go_enter func103,ntmps103;go_wp2_with fail;go_ret;exact⟨by rw[HX.o];rfl,Ch.refl _ _⟩
end Go.Proofs.YtheibfffilomcaaGreatDoor
