import Derived.Test.YtheibfffilomcabGreatDoorEvnU
import Derived.Test.YtheibfffilomcabGreatDoorTmU
import Derived.Test.YtheibfffilomcabGreatDoorTkU
set_option linter.all false
set_option maxRecDepth 100000
set_option maxHeartbeats 1000000
namespace Go.Proofs.YtheibfffilomcabGreatDoor
open Go.RowKit Go.Proofs.Tryz
variable {a b x:Int} {L:Lay} {w w' u:World} {s':TS} {r:List (Int × Int × Int)}
def Next (L:Lay) (w w':World) (s':TS):Prop:=∃L':Lay,L'.tb=L.tb∧a_ w' L' s'∧Ch L.own w w'∧∀k,L'.own k→L.own k∨w.heap.size≤k
theorem Next.of(h:a_ w' L s')(c:Ch L.own w w'):Next L w w' s':=⟨L,rfl,h,c,fun _ hk=>.inl hk⟩
theorem Next.ahead(c:Ch L.own w u)(h:Next L u w' s'):Next L w w' s':=by obtain⟨L',h1,h2,h3,h4⟩:=h;exact⟨L',h1,h2,c.trans h3,fun k hk=>(h4 k hk).imp id (fun q=>fA c.size q)⟩
theorem TS.Inv.fresh{rows aa:Nat}(hr:1≤rows∧rows≤12)(hc:1≤aa∧aa≤40):(TS.fresh rows aa).Inv:=
 ⟨hr.1,hr.2,hc.1,hc.2,Int.le_refl _,by show(0:Int)<(rows:Int);omega,Int.le_refl _,by show(0:Int)<(aa:Int);omega,Int.le_refl _,by show(0:Int)≤(rows:Int)-1;omega,by show(rows:Int)-1<(rows:Int);omega,.inl rfl,
  by simp[TS.fresh],by simp[TS.fresh],by simp[TS.fresh],⟨Int.le_refl _,by show(0:Int)<(rows:Int);omega⟩,⟨Int.le_refl _,by show(0:Int)<(aa:Int);omega⟩,⟨Int.le_refl _,by show(0:Int)<(rows:Int);omega⟩,⟨Int.le_refl _,by show(0:Int)<(aa:Int);omega⟩⟩
theorem MF(L:Lay)(s:TS):∀v∈iW L s,v.oneCell'=true:=by intro v hv;have:(iW L s).all (·.oneCell')=true:=rfl;exact List.all_eq_true.1 this v hv
theorem J8:(prog.info? 147).map (·.size)=some 44:=by kernel_rfl
theorem o5(L:Lay)(s:TS)(w:World)(ht:a_ w L s)(hi:s.Inv):Calls prog 90 #[.pointer (some ⟨L.tb,0,none⟩)] w fun e w'=>e= .returned (.tuple #[.int .i64 (s.rows:Int),.int .i64 (s.aa:Int)])∧w'=w:=by
 have l1:=kT L s w ht hi;have l2:=jE L s w ht hi;have hr2:=hi.r2;have hc2:=hi.c2;have v1:IntKind.i64.wrap ((s.rows:Int)-1+1)=(s.rows:Int):=by rw[Int.sub_add_cancel];exact bV _ (by omega)
 have v2:IntKind.i64.wrap ((s.aa:Int)-1+1)=(s.aa:Int):=by rw[Int.sub_add_cancel];exact bV _ (by omega)
 have v3:IntKind.i64.wrap (s.rows:Int)=(s.rows:Int):=bV _ (by omega);have v4:IntKind.i64.wrap (s.aa:Int)=(s.aa:Int):=bV _ (by omega);clear ht hi;go_enter func90,ntmps90;go_wp2_with (first|(go_at_call 138;refine l1.mono ?_;rintro e w1 ⟨rfl,hw1⟩;have hw2:=hw1.symm;subst hw2)|(go_at_call 128;refine l2.mono ?_;rintro e w1 ⟨rfl,hw1⟩;have hw2:=hw1.symm;subst hw2));go_ret2;exact⟨rfl,rfl⟩
theorem NT(L:Lay)(s:TS)(w:World)(ht:a_ w L s)(hi:s.Inv)(f:Int):Calls prog 131 #[.pointer (some ⟨L.tb,0,none⟩),.int .i64 f] w fun e w'=>e= .returned (.tuple #[])∧Next L w w' (s.bare f):=by
 have c28:=ht.c 28 _ rfl;have f28:=ht.f 28;have HT:Hid _:=ht;have hu:=ht.set (s':=s.aJ) 28 (.bool false) rfl rfl rfl rfl rfl;have HU:Hid _:=hu;have HI:Hid s.Inv:=hi;have CU:Hid (Ch L.own w (w.setCell ⟨L.tb,28,none⟩ (.bool false))):=(Ch.refl _ _).jI _ _;have hr2:=hi.r2;have hr1:=hi.r1;have hc1:=hi.c1;have hc2:=hi.c2;have hlt:=ht.lt;clear ht hu hi;rcases(show f=55∨f=56∨f=68∨f=77∨f=69∨f=72∨f=99∨¬(f=55∨f=56∨f=68∨f=77∨f=69∨f=72∨f=99) by omega)with rfl|rfl|rfl|rfl|rfl|rfl|rfl|hf
 ·rw[show s.bare 55=s.save from rfl];go_enter func131,ntmps131;go_wp2_with (go_at_call 173;refine(Pp L s w HT.o HI.o).mono ?_;rintro e w1 ⟨rfl,h1,c1⟩);go_end0;exact⟨rfl,Next.of h1 (c1)⟩
 ·rw[show s.bare 56=s.restore from rfl];go_enter func131,ntmps131;go_wp2_with (go_at_call 174;refine(Fe L s w HT.o HI.o).mono ?_;rintro e w1 ⟨rfl,h1,c1⟩);go_end0;exact⟨rfl,Next.of h1 (c1)⟩
 ·rw[show s.bare 68=s.aJ.down from rfl];go_enter func131,ntmps131;go_wp2_with (go_at_call 130;refine(o_ L s.aJ _ HU.o HI.o.aJ).mono ?_;rintro e w1 ⟨rfl,h1,c1⟩);go_end0;exact⟨rfl,Next.of h1 (CU.o.trans c1)⟩
 ·rw[show s.bare 77=s.aJ.up from rfl];go_enter func131,ntmps131;go_wp2_with (go_at_call 175;refine(RV L s.aJ _ HU.o HI.o.aJ).mono ?_;rintro e w1 ⟨rfl,h1,c1⟩);go_end0;exact⟨rfl,Next.of h1 (CU.o.trans c1)⟩
 ·rw[show s.bare 69=s.aJ.aT from rfl];go_enter func131,ntmps131;go_wp2_with (go_at_call 122;refine(pU L s.aJ _ HU.o HI.o.aJ).mono ?_;rintro e w1 ⟨rfl,h1,c1⟩);go_end0;exact⟨rfl,Next.of h1 (CU.o.trans c1)⟩
 ·rw[show s.bare 72= {s with tabs:=s.tabs.set s.col.toNat true} from rfl];obtain⟨cc,hcc⟩:∃cc:Nat,s.col=(cc:Int):=⟨s.col.toNat,by have:=HI.o.fU;omega⟩;have hcl:cc<s.aa:=by have:=HI.o.gz;omega
  have hcl':(cc:Int)<(s.aa:Int):=by omega
  rw[show s.col.toNat=cc by rw[hcc];rfl];have htl:cc<s.tabs.length:=by rw[HI.o.lt];exact hcl
  have HT0:a_ ({w with drawn:=w.drawn+1}:World) L s:=HT.o.sm ((Ch.refl _ _).drewN 1);have HH:World.cell? ({w with drawn:=w.drawn+1}:World) ⟨L.tb,43,none⟩=some (.slice (some ⟨L.gb,0,none⟩) s.aa s.aa)∧World.cell? ({w with drawn:=w.drawn+1}:World) ⟨L.tb,27,none⟩=some (.int .i64 (cc:Int)):=⟨HT0.c 43 _ rfl,by rw[←hcc];exact HT0.c 27 _ rfl⟩;go_enter func131,ntmps131;go_wp2_with fail;refine fJ (S:=fun x=>x.cell? ⟨L.tb,43,none⟩=some (.slice (some ⟨L.gb,0,none⟩) s.aa s.aa)∧x.cell? ⟨L.tb,27,none⟩=some (.int .i64 (cc:Int))) bI ?_;refine aL 0 1 2 3 HH ?_;simp only[ah,ag];refine aL 4 5 6 7 HH ?_;simp only[ah,ag];refine g_ 8 9 HH ?_;refine ak 10 HH ?_ (v:=.pointer (some ⟨L.gb,cc,none⟩));simp only[ah,ag];refine aD 11 ?_;refine ni 4 tJ (.tmp 52) _ rfl rfl L.gb cc (s.tabs.map Value.bool) ((s.tabs.set cc true).map Value.bool) (.bool true) (by rw[List.length_map];exact htl) rfl rfl rfl rfl (by rw[List.map_set]) 4 HT0.tab ?_;intro u3 g3 k3;have T3:=HT0.C9 g3 k3;refine⟨⟨T3.c 43 _ rfl,by rw[←hcc];exact T3.c 27 _ rfl⟩,?_⟩;refine aM ?_;have HF:Hid (a_ u3 L {s with tabs:=s.tabs.set cc true}∧Ch L.own w u3):=⟨T3,(⟨k3.os,k3.tape,k3.output,k3.size,k3.block⟩:Ch (· =L.gb) w u3).mono fun k _ e=>.inr (.inr (.inr (.inl e)))⟩;clear T3 k3 g3 HT0 HH;go_wp2_with fail;go_end0;exact⟨rfl,Next.of HF.o.1 HF.o.2⟩
 ·rw[show s.bare 99=TS.fresh s.rows s.aa from rfl];have l1:=o5 L s w HT.o HI.o;have l3:=F8 s.rows s.aa w ⟨hr1,hr2⟩ ⟨hc1,hc2⟩;clear c28 f28 HU CU;go_enter func131,ntmps131;go_wp2_with (first|(go_at_call 90;refine l1.mono ?_;rintro e w1 ⟨rfl,hw1⟩;have hw2:=hw1.symm;subst hw2)|(go_at_call 38;refine l3.mono ?_;rintro e w3 ⟨L',rfl,t3,o3,b3⟩)|(refine jb rfl 147 (.tmp 61) rfl L'.tb rfl 147 _ (0,0) _ t3.blk underlying147 rfl J8 ?_)|(refine bY _ rfl 147 (.tmp 63) (.tmp 62) rfl L.tb (iW L s) (iW L' (TS.fresh s.rows s.aa)) rfl _ rfl rfl 147 ((b3.block _ hlt).trans HT.o.blk) rfl J8 (MF _ _) ?_));intro u4 g4 k4 z4;have hn:∀k,L'.own k→k≠L.tb:=fun k hk=>by have:=o3 k hk;omega
  have T4:=t3.kept k4 hn;have hsep:=T4.sep;have T5:a_ u4 {L' with tb:=L.tb} (TS.fresh s.rows s.aa):=⟨g4,T4.h0,T4.h1,T4.tab,⟨fun e=>hn _ (.inr (.inl rfl)) e.symm,fun e=>hn _ (.inr (.inr (.inl rfl))) e.symm,fun e=>hn _ (.inr (.inr (.inr (.inl rfl)))) e.symm,hsep.s01,hsep.s0g,hsep.s1g,fun h=>hn _ (.inr (.inr (.inr (.inr (.inl h))))) rfl,fun h=>hn _ (.inr (.inr (.inr (.inr (.inr h))))) rfl,hsep.gx,hsep.gy,hsep.s0y,hsep.s1x,hsep.xy⟩⟩
  have N:Next L w u4 (TS.fresh s.rows s.aa):=⟨{L' with tb:=L.tb},rfl,T5,(Ch.of_below b3).trans (k4.mono fun k _ e=>.inl e),fun k hk=>by
   rcases hk with e|e|e|e|e|e
   ·exact .inl (.inl e)
   ·exact .inr (o3 k (.inr (.inl e)))
   ·exact .inr (o3 k (.inr (.inr (.inl e))))
   ·exact .inr (o3 k (.inr (.inr (.inr (.inl e)))))
   ·exact .inr (o3 k (.inr (.inr (.inr (.inr (.inl e))))))
   ·exact .inr (o3 k (.inr (.inr (.inr (.inr (.inr e))))))⟩
  clear T4 T5 t3 g4 k4 b3 hsep;go_wp2_with fail;go_end0;exact⟨rfl,N⟩
 ·have e:s.bare f=s:=by unfold TS.bare;simp only[aG (show¬f=55 by omega),aG (show¬f=56 by omega),aG (show¬f=68 by omega),aG (show¬f=77 by omega),aG (show¬f=69 by omega),aG (show¬f=72 by omega),aG (show¬f=99 by omega)]
  rw[e];clear e;have b55:(f==55)=false:=by simp;omega
  have b56:(f==56)=false:=by simp;omega
  have b68:(f==68)=false:=by simp;omega
  have b77:(f==77)=false:=by simp;omega
  have b69:(f==69)=false:=by simp;omega
  have b72:(f==72)=false:=by simp;omega
  have b99:(f==99)=false:=by simp;omega
  have HF:Hid _:=hf;clear hf;go_enter func131,ntmps131;go_wp2_with fail;go_end0;exact⟨rfl,Next.of HT.o (Ch.refl _ _)⟩
theorem gT{g j:Nat}{ev:List Int}{t:TypeId}{fr:Nat × Nat}(h:u.heap[g]? =some (.cells (aO ev) t fr))(hj:j<ev.length):u.cell? ⟨g,j,none⟩=some (.int .i64 (ev.getD j 0)):=by rw[dJ _ _ _ _ _ _ h,aO,AA];exact uG ev j hj
theorem G5(L:Lay)(s:TS)(w:World)(ht:a_ w L s)(hi:s.Inv)(ev:List Int)(hev:ev.length=21):Calls prog 79 #[.pointer (some ⟨L.tb,0,none⟩),.agg (aO ev)] w fun e w'=>e= .returned (.tuple #[])∧Next L w w' (s.escape (ev.getD 2 0) (ev.getD 3 0)):=by
 have HT0:=ht.sm ((Ch.refl (fun _=>False) w).alloc (.cells (aO ev) 92));have e2:(w.alloc (.cells (aO ev) 92)).cell? ⟨w.heap.size,2,none⟩=some (.int .i64 (ev.getD 2 0)):=gT (bJ _ _) (by omega);have e3:(w.alloc (.cells (aO ev) 92)).cell? ⟨w.heap.size,3,none⟩=some (.int .i64 (ev.getD 3 0)):=gT (bJ _ _) (by omega);have jA:Hid (Ch L.own w (w.alloc (.cells (aO ev) 92))):=(Ch.refl _ _).alloc _;have AQ:Hid (¬L.own w.heap.size):=fun h=>by have:=ht.jv h;omega
 have DC:Hid (w.heap.size<(w.alloc (.cells (aO ev) 92)).heap.size):=by show _<_;simp
 have hlt:=ht.lt;generalize ev.getD 2 0=mk at*;generalize ev.getD 3 0=fi at*;have HI:Hid s.Inv:=hi;clear ht hi;rcases(show mk=0∨mk=40∨mk=41∨¬(mk=0∨mk=40∨mk=41) by omega)with rfl|rfl|rfl|hm
 ·rw[show s.escape 0 fi=s.bare fi from rfl];have l1:=NT L s _ HT0 HI.o fi;have HT:Hid _:=HT0;clear HT0;go_enter func79,ntmps79;go_wp2_with (go_at_call 131;refine l1.mono ?_;rintro e w1 ⟨rfl,n1⟩);go_end0;exact⟨rfl,Next.ahead jA.o n1⟩
 ·rw[show s.escape 40 fi= {s with first:=TS.dB fi s.first} from rfl];have HT:Hid _:=HT0;clear HT0;go_enter func79,ntmps79;go_wp2_with fail;generalize hW:w.alloc (Obj.cells (aO ev) 92)=W at*;generalize hlb:w.heap.size=lb at*;have HT0:a_ ({W with drawn:=W.drawn+1}:World) L s:=HT.o.sm ((Ch.refl _ _).drewN 1);have HH:World.cell? ({W with drawn:=W.drawn+1}:World) ⟨lb,3,none⟩=some (.int .i64 fi):=e3;refine fJ (S:=fun x=>x.cell? ⟨lb,3,none⟩=some (.int .i64 fi)) bI ?_;refine aL 0 1 2 3 HH ?_;simp only[ah,ag];refine aL 4 5 6 7 HH ?_;simp only[ah,ag];refine aD 8 ?_;refine rZ 22 (.tmp 21) rfl rfl _ s.first rfl (HT0.c 34 _ rfl) ?_;refine⟨HH,?_⟩;simp only[ah,ag];refine aD 9 ?_;refine d_ (vs:=[.int .i64 fi,.int .i64 s.first]) (uw _ _ _) ?_;rintro v2 w9 ⟨rfl,rfl⟩;refine⟨HH,?_⟩;simp only[ah,ag];refine aL 10 11 12 13 HH ?_;simp only[ah,ag];refine aD 14 ?_;refine zS 3 vL (.tmp 27) (.tmp 23) rfl rfl L s {s with first:=TS.dB fi s.first} 34 (.int .i64 (TS.dB fi s.first)) rfl rfl rfl rfl HT0 (by omega) rfl rfl rfl rfl rfl ?_;intro u' ht' qx hcell;refine⟨(eT (qx.block lb DC.o (fun h=>AQ.o h))).trans HH,?_⟩;clear hcell;refine aM ?_;have HF:Hid (a_ u' L {s with first:=TS.dB fi s.first}∧Ch L.own W u'):=⟨ht',⟨qx.os,qx.tape,qx.output,qx.size,qx.block⟩⟩;clear ht' qx HT0 HH;go_wp2_with fail;go_end0;exact⟨rfl,Next.ahead jA.o (Next.of HF.o.1 HF.o.2)⟩
 ·rw[show s.escape 41 fi= {s with second:=TS.dB fi s.second} from rfl];have HT:Hid _:=HT0;clear HT0;go_enter func79,ntmps79;go_wp2_with fail;generalize hW:w.alloc (Obj.cells (aO ev) 92)=W at*;generalize hlb:w.heap.size=lb at*;have HT0:a_ ({W with drawn:=W.drawn+1}:World) L s:=HT.o.sm ((Ch.refl _ _).drewN 1);have HH:World.cell? ({W with drawn:=W.drawn+1}:World) ⟨lb,3,none⟩=some (.int .i64 fi):=e3;refine fJ (S:=fun x=>x.cell? ⟨lb,3,none⟩=some (.int .i64 fi)) bI ?_;refine aL 0 1 2 3 HH ?_;simp only[ah,ag];refine aL 4 5 6 7 HH ?_;simp only[ah,ag];refine aD 8 ?_;refine rZ 38 (.tmp 37) rfl rfl _ s.second rfl (HT0.c 35 _ rfl) ?_;refine⟨HH,?_⟩;simp only[ah,ag];refine aD 9 ?_;refine d_ (vs:=[.int .i64 fi,.int .i64 s.second]) (uw _ _ _) ?_;rintro v2 w9 ⟨rfl,rfl⟩;refine⟨HH,?_⟩;simp only[ah,ag];refine aL 10 11 12 13 HH ?_;simp only[ah,ag];refine aD 14 ?_;refine zS 3 vL (.tmp 43) (.tmp 39) rfl rfl L s {s with second:=TS.dB fi s.second} 35 (.int .i64 (TS.dB fi s.second)) rfl rfl rfl rfl HT0 (by omega) rfl rfl rfl rfl rfl ?_;intro u' ht' qx hcell;refine⟨(eT (qx.block lb DC.o (fun h=>AQ.o h))).trans HH,?_⟩;clear hcell;refine aM ?_;have HF:Hid (a_ u' L {s with second:=TS.dB fi s.second}∧Ch L.own W u'):=⟨ht',⟨qx.os,qx.tape,qx.output,qx.size,qx.block⟩⟩;clear ht' qx HT0 HH;go_wp2_with fail;go_end0;exact⟨rfl,Next.ahead jA.o (Next.of HF.o.1 HF.o.2)⟩
 ·have e:s.escape mk fi=s:=by unfold TS.escape;simp only[aG (show¬mk=0 by omega),aG (show¬mk=40 by omega),aG (show¬mk=41 by omega)]
  rw[e];have b0:(mk==0)=false:=by simp;omega
  have b1:(mk==40)=false:=by simp;omega
  have b2:(mk==41)=false:=by simp;omega
  have HT:Hid _:=HT0;clear HT0 e hm;go_enter func79,ntmps79;go_wp2_with fail;go_end0;exact⟨rfl,Next.ahead jA.o (Next.of HT.o (Ch.refl _ _))⟩
theorem O0(L:Lay)(s:TS)(w:World)(ht:a_ w L s)(hi:s.Inv)(ev:List Int)(hev:ev.length=21)(h5: -1≤ev.getD 5 0∧ev.getD 5 0≤65535)(h6: -1≤ev.getD 6 0∧ev.getD 6 0≤65535):Calls prog 134 #[.pointer (some ⟨L.tb,0,none⟩),.agg (aO ev)] w fun e w'=>e= .returned (.tuple #[])∧a_ w' L (s.move (ev.getD 3 0) (ev.getD 5 0) (ev.getD 6 0))∧Ch L.own w w':=by
 have HT0:=ht.sm ((Ch.refl (fun _=>False) w).alloc (.cells (aO ev) 92));have e3:(w.alloc (.cells (aO ev) 92)).cell? ⟨w.heap.size,3,none⟩=some (.int .i64 (ev.getD 3 0)):=gT (bJ _ _) (by omega);have e5:(w.alloc (.cells (aO ev) 92)).cell? ⟨w.heap.size,5,none⟩=some (.int .i64 (ev.getD 5 0)):=gT (bJ _ _) (by omega);have e6:(w.alloc (.cells (aO ev) 92)).cell? ⟨w.heap.size,6,none⟩=some (.int .i64 (ev.getD 6 0)):=gT (bJ _ _) (by omega);have jA:Hid (Ch L.own w (w.alloc (.cells (aO ev) 92))):=(Ch.refl _ _).alloc _;have hlt:=ht.lt;have AQ:Hid (¬L.own w.heap.size):=fun h=>by have:=ht.jv h;omega
 generalize ev.getD 3 0=f at*;generalize ev.getD 5 0=p0 at*;generalize ev.getD 6 0=p1 at*;have HI:Hid s.Inv:=hi;have HT:Hid _:=HT0;have c27:=HT0.c 27 _ rfl;have hn:1≤TS.times p0∧TS.times p0≤65535:=by unfold TS.times;omega
 have hm:1≤TS.times p1∧TS.times p1≤65535:=by unfold TS.times;omega
 have OV:∀u,_:=fun u=>dY p0 u;have lt1:∀u,_:=fun u=>dY p1 u;have hco:=hi.fU;have hc1:=hi.gz;have hc2:=hi.c2;have va:IntKind.i64.wrap (s.col+TS.times p0)=s.col+TS.times p0:=bV _ (by omega);have vb:IntKind.i64.wrap (s.col-TS.times p0)=s.col-TS.times p0:=bV _ (by omega);have vc:IntKind.i64.wrap (TS.times p0-1)=TS.times p0-1:=bV _ (by omega);have vd:IntKind.i64.wrap (TS.times p1-1)=TS.times p1-1:=bV _ (by omega);clear ht hi HT0;rcases(show f=65∨f=66∨f=67∨f=68∨f=71∨f=100∨f=72∨f=102∨¬(f=65∨f=66∨f=67∨f=68∨f=71∨f=100∨f=72∨f=102) by omega)with rfl|rfl|rfl|rfl|rfl|rfl|rfl|rfl|hf
 ·rw[show s.move 65 p0 p1=s.rise (TS.times p0) from rfl];have l1:=Pg L s _ HT.o HI.o (TS.times p0) (by omega);generalize TS.times p0=n at*;generalize TS.times p1=m at*;go_enter func134,ntmps134;go_wp2_with (first|(go_at_call 177;refine(OV _).mono ?_;rintro e w1 ⟨rfl,hw1⟩;have hw2:=hw1.symm;subst hw2)|(go_at_call 178;refine l1.mono ?_;rintro e w9 ⟨rfl,h1,c1⟩));go_end0;exact⟨rfl,h1,jA.o.trans c1⟩
 ·rw[show s.move 66 p0 p1=s.sink (TS.times p0) from rfl];have l1:=Pv L s _ HT.o HI.o (TS.times p0) (by omega);generalize TS.times p0=n at*;generalize TS.times p1=m at*;go_enter func134,ntmps134;go_wp2_with (first|(go_at_call 177;refine(OV _).mono ?_;rintro e w1 ⟨rfl,hw1⟩;have hw2:=hw1.symm;subst hw2)|(go_at_call 179;refine l1.mono ?_;rintro e w9 ⟨rfl,h1,c1⟩));go_end0;exact⟨rfl,h1,jA.o.trans c1⟩
 ·rw[show s.move 67 p0 p1=s.bD (s.col+TS.times p0) from rfl];have l1:=eO L s _ HT.o HI.o (s.col+TS.times p0);generalize TS.times p0=n at*;generalize TS.times p1=m at*;go_enter func134,ntmps134;go_wp2_with (first|(go_at_call 177;refine(OV _).mono ?_;rintro e w1 ⟨rfl,hw1⟩;have hw2:=hw1.symm;subst hw2)|(go_at_call 127;refine l1.mono ?_;rintro e w9 ⟨rfl,h1,c1⟩));go_end0;exact⟨rfl,h1,jA.o.trans c1⟩
 ·rw[show s.move 68 p0 p1=s.bD (s.col-TS.times p0) from rfl];have l1:=eO L s _ HT.o HI.o (s.col-TS.times p0);generalize TS.times p0=n at*;generalize TS.times p1=m at*;go_enter func134,ntmps134;go_wp2_with (first|(go_at_call 177;refine(OV _).mono ?_;rintro e w1 ⟨rfl,hw1⟩;have hw2:=hw1.symm;subst hw2)|(go_at_call 127;refine l1.mono ?_;rintro e w9 ⟨rfl,h1,c1⟩));go_end0;exact⟨rfl,h1,jA.o.trans c1⟩
 ·rw[show s.move 71 p0 p1=s.bD (TS.times p0-1) from rfl];have l1:=eO L s _ HT.o HI.o (TS.times p0-1);generalize TS.times p0=n at*;generalize TS.times p1=m at*;go_enter func134,ntmps134;go_wp2_with (first|(go_at_call 177;refine(OV _).mono ?_;rintro e w1 ⟨rfl,hw1⟩;have hw2:=hw1.symm;subst hw2)|(go_at_call 127;refine l1.mono ?_;rintro e w9 ⟨rfl,h1,c1⟩));go_end0;exact⟨rfl,h1,jA.o.trans c1⟩
 ·rw[show s.move 100 p0 p1=s.aW (TS.times p0-1) from rfl];have l1:=kL L s _ HT.o HI.o (TS.times p0-1) (by omega);generalize TS.times p0=n at*;generalize TS.times p1=m at*;go_enter func134,ntmps134;go_wp2_with (first|(go_at_call 177;refine(OV _).mono ?_;rintro e w1 ⟨rfl,hw1⟩;have hw2:=hw1.symm;subst hw2)|(go_at_call 180;refine l1.mono ?_;rintro e w9 ⟨rfl,h1,c1⟩));go_end0;exact⟨rfl,h1,jA.o.trans c1⟩
 ·rw[show s.move 72 p0 p1=(s.aW (TS.times p0-1)).bD (TS.times p1-1) from rfl];have l1:=kL L s _ HT.o HI.o (TS.times p0-1) (by omega);have l2:∀u,a_ u L (s.aW (TS.times p0-1))→_:=fun u hu=>eO L (s.aW (TS.times p0-1)) u hu (HI.o.aW _) (TS.times p1-1);generalize TS.times p0=n at*;generalize TS.times p1=m at*;have DC:Hid (w.heap.size<(w.alloc (.cells (aO ev) 92)).heap.size):=by show _<_;simp
  go_enter func134,ntmps134;go_wp2_with (first|(go_at_call 177;refine(lt1 _).mono ?_;rintro e w1 ⟨rfl,hw1⟩;have hq:=h1;have hw2:=hw1.symm;subst hw2)|(go_at_call 177;refine(OV _).mono ?_;rintro e w1 ⟨rfl,hw1⟩;have hw2:=hw1.symm;subst hw2)|(go_at_call 180;refine l1.mono ?_;rintro e w8 ⟨rfl,h1,c1⟩;have e6':=(eT (c1.block w.heap.size DC.o AQ.o)).trans e6)|(go_at_call 127;refine(l2 _ h1).mono ?_;rintro e w9 ⟨rfl,h2,c2⟩));go_end0;exact⟨rfl,h2,jA.o.trans (c1.trans c2)⟩
 ·rw[show s.move 102 p0 p1=(s.aW (TS.times p0-1)).bD (TS.times p1-1) from rfl];have l1:=kL L s _ HT.o HI.o (TS.times p0-1) (by omega);have l2:∀u,a_ u L (s.aW (TS.times p0-1))→_:=fun u hu=>eO L (s.aW (TS.times p0-1)) u hu (HI.o.aW _) (TS.times p1-1);generalize TS.times p0=n at*;generalize TS.times p1=m at*;have DC:Hid (w.heap.size<(w.alloc (.cells (aO ev) 92)).heap.size):=by show _<_;simp
  go_enter func134,ntmps134;go_wp2_with (first|(go_at_call 177;refine(lt1 _).mono ?_;rintro e w1 ⟨rfl,hw1⟩;have hq:=h1;have hw2:=hw1.symm;subst hw2)|(go_at_call 177;refine(OV _).mono ?_;rintro e w1 ⟨rfl,hw1⟩;have hw2:=hw1.symm;subst hw2)|(go_at_call 180;refine l1.mono ?_;rintro e w8 ⟨rfl,h1,c1⟩;have e6':=(eT (c1.block w.heap.size DC.o AQ.o)).trans e6)|(go_at_call 127;refine(l2 _ h1).mono ?_;rintro e w9 ⟨rfl,h2,c2⟩));go_end0;exact⟨rfl,h2,jA.o.trans (c1.trans c2)⟩
 ·have e:s.move f p0 p1=s:=by unfold TS.move;simp only[aG (show¬f=65 by omega),aG (show¬f=66 by omega),aG (show¬f=67 by omega),aG (show¬f=68 by omega),aG (show¬f=71 by omega),aG (show¬f=100 by omega),aG (show¬(f=72∨f=102) by omega)]
  rw[e];have b65:(f==65)=false:=by simp;omega
  have b66:(f==66)=false:=by simp;omega
  have b67:(f==67)=false:=by simp;omega
  have b68:(f==68)=false:=by simp;omega
  have b71:(f==71)=false:=by simp;omega
  have b100:(f==100)=false:=by simp;omega
  have b72:(f==72)=false:=by simp;omega
  have b102:(f==102)=false:=by simp;omega
  clear e hf;generalize TS.times p0=n at*;generalize TS.times p1=m at*;go_enter func134,ntmps134;go_wp2_with (go_at_call 177;refine(OV _).mono ?_;rintro e w1 ⟨rfl,hw1⟩;have hw2:=hw1.symm;subst hw2);go_end0;exact⟨rfl,HT.o,jA.o⟩
def v_:List (Int × Int × Int):=[(0,31,0),(127,159,0),(768,879,0),(4352,4447,2),(8203,8207,0),(11904,42191,2),(44032,55203,2),(63744,64255,2),(65024,65039,0),(65072,65135,2),(65280,65376,2),(65504,65510,2),(127744,128591,2),(131072,262141,2)]
def lq (c:Int):List (Int × Int × Int)→Int
 | []=>1
 |(a,b,x)::r=>if a≤c∧c≤b then x else lq c r
def nD (c:Int):Int:=lq c v_
def dx:Array Value:=#[.int .i64 0,.int .i64 31,.int .i64 0,.int .i64 127,.int .i64 159,.int .i64 0,.int .i64 768,.int .i64 879,.int .i64 0,.int .i64 4352,.int .i64 4447,.int .i64 2,.int .i64 8203,.int .i64 8207,.int .i64 0,.int .i64 11904,.int .i64 42191,.int .i64 2,.int .i64 44032,.int .i64 55203,.int .i64 2,.int .i64 63744,.int .i64 64255,.int .i64 2,.int .i64 65024,.int .i64 65039,.int .i64 0,.int .i64 65072,.int .i64 65135,.int .i64 2,.int .i64 65280,.int .i64 65376,.int .i64 2,.int .i64 65504,.int .i64 65510,.int .i64 2,.int .i64 127744,.int .i64 128591,.int .i64 2,.int .i64 131072,.int .i64 262141,.int .i64 2]
def yB (w:World):Prop:=∃t fr,w.heap[1]? =some (.cells dx t fr)
theorem yB.kept{w w':World}(h:yB w)(hb:w'.heap[1]? =w.heap[1]?):yB w':=by obtain⟨t,fr,h⟩:=h;exact⟨t,fr,hb.trans h⟩
def Zr:Array Value:=#[.int .i64 0,.int .i64 127,.int .i64 768,.int .i64 4352,.int .i64 8203,.int .i64 11904,.int .i64 44032,.int .i64 63744,.int .i64 65024,.int .i64 65072,.int .i64 65280,.int .i64 65504,.int .i64 127744,.int .i64 131072]
def Y3:Array Value:=#[.int .i64 31,.int .i64 159,.int .i64 879,.int .i64 4447,.int .i64 8207,.int .i64 42191,.int .i64 55203,.int .i64 64255,.int .i64 65039,.int .i64 65135,.int .i64 65376,.int .i64 65510,.int .i64 128591,.int .i64 262141]
def aaf:Array Value:=#[.int .i64 0,.int .i64 0,.int .i64 0,.int .i64 2,.int .i64 0,.int .i64 2,.int .i64 2,.int .i64 2,.int .i64 0,.int .i64 2,.int .i64 2,.int .i64 2,.int .i64 2,.int .i64 2]
theorem UX:(prog.info? 217).map (·.size)=some dx.size:=by kernel_rfl
theorem ZY(w:World):(Instr.index 217 (.agg dx) (.int .i64 0)).run prog w= .ok (.agg #[.int .i64 0,.int .i64 31,.int .i64 0]) w:=by kernel_rfl
theorem ZZ(w:World):(Instr.index 217 (.agg dx) (.int .i64 1)).run prog w= .ok (.agg #[.int .i64 127,.int .i64 159,.int .i64 0]) w:=by kernel_rfl
theorem Z0(w:World):(Instr.index 217 (.agg dx) (.int .i64 2)).run prog w= .ok (.agg #[.int .i64 768,.int .i64 879,.int .i64 0]) w:=by kernel_rfl
theorem Z4(w:World):(Instr.index 217 (.agg dx) (.int .i64 3)).run prog w= .ok (.agg #[.int .i64 4352,.int .i64 4447,.int .i64 2]) w:=by kernel_rfl
theorem Z5(w:World):(Instr.index 217 (.agg dx) (.int .i64 4)).run prog w= .ok (.agg #[.int .i64 8203,.int .i64 8207,.int .i64 0]) w:=by kernel_rfl
theorem Z6(w:World):(Instr.index 217 (.agg dx) (.int .i64 5)).run prog w= .ok (.agg #[.int .i64 11904,.int .i64 42191,.int .i64 2]) w:=by kernel_rfl
theorem Z7(w:World):(Instr.index 217 (.agg dx) (.int .i64 6)).run prog w= .ok (.agg #[.int .i64 44032,.int .i64 55203,.int .i64 2]) w:=by kernel_rfl
theorem Z8(w:World):(Instr.index 217 (.agg dx) (.int .i64 7)).run prog w= .ok (.agg #[.int .i64 63744,.int .i64 64255,.int .i64 2]) w:=by kernel_rfl
theorem Z9(w:World):(Instr.index 217 (.agg dx) (.int .i64 8)).run prog w= .ok (.agg #[.int .i64 65024,.int .i64 65039,.int .i64 0]) w:=by kernel_rfl
theorem Z_(w:World):(Instr.index 217 (.agg dx) (.int .i64 9)).run prog w= .ok (.agg #[.int .i64 65072,.int .i64 65135,.int .i64 2]) w:=by kernel_rfl
theorem VB(w:World):(Instr.index 217 (.agg dx) (.int .i64 10)).run prog w= .ok (.agg #[.int .i64 65280,.int .i64 65376,.int .i64 2]) w:=by kernel_rfl
theorem VC(w:World):(Instr.index 217 (.agg dx) (.int .i64 11)).run prog w= .ok (.agg #[.int .i64 65504,.int .i64 65510,.int .i64 2]) w:=by kernel_rfl
theorem VD(w:World):(Instr.index 217 (.agg dx) (.int .i64 12)).run prog w= .ok (.agg #[.int .i64 127744,.int .i64 128591,.int .i64 2]) w:=by kernel_rfl
theorem VE(w:World):(Instr.index 217 (.agg dx) (.int .i64 13)).run prog w= .ok (.agg #[.int .i64 131072,.int .i64 262141,.int .i64 2]) w:=by kernel_rfl
theorem VG(k:Nat)(hk:k<14):
 ∃a b x:Int,(∀w,(Instr.index 217 (.agg dx) (.int .i64 k)).run prog w= .ok (.agg #[.int .i64 a,.int .i64 b,.int .i64 x]) w)∧
  v_.drop k=(a,b,x)::v_.drop (k+1)∧Zr[k]? =some (.int .i64 a)∧Y3[k]? =some (.int .i64 b)∧aaf[k]? =some (.int .i64 x):=by
 match k,hk with
 | 0,_=>exact⟨_,_,_,ZY,rfl,rfl,rfl,rfl⟩
 | 1,_=>exact⟨_,_,_,ZZ,rfl,rfl,rfl,rfl⟩
 | 2,_=>exact⟨_,_,_,Z0,rfl,rfl,rfl,rfl⟩
 | 3,_=>exact⟨_,_,_,Z4,rfl,rfl,rfl,rfl⟩
 | 4,_=>exact⟨_,_,_,Z5,rfl,rfl,rfl,rfl⟩
 | 5,_=>exact⟨_,_,_,Z6,rfl,rfl,rfl,rfl⟩
 | 6,_=>exact⟨_,_,_,Z7,rfl,rfl,rfl,rfl⟩
 | 7,_=>exact⟨_,_,_,Z8,rfl,rfl,rfl,rfl⟩
 | 8,_=>exact⟨_,_,_,Z9,rfl,rfl,rfl,rfl⟩
 | 9,_=>exact⟨_,_,_,Z_,rfl,rfl,rfl,rfl⟩
 | 10,_=>exact⟨_,_,_,VB,rfl,rfl,rfl,rfl⟩
 | 11,_=>exact⟨_,_,_,VC,rfl,rfl,rfl,rfl⟩
 | 12,_=>exact⟨_,_,_,VD,rfl,rfl,rfl,rfl⟩
 | 13,_=>exact⟨_,_,_,VE,rfl,rfl,rfl,rfl⟩
 |n+14,h=>omega
theorem K3{c:Int}{l:List (Int × Int × Int)}(e:l=(a,b,x)::r)(h1:a≤c)(h2:c≤b):lq c l=x:=by rw[e];simp only[lq];rw[aS ⟨h1,h2⟩]
theorem yR{c:Int}{l:List (Int × Int × Int)}(e:l=(a,b,x)::r)(h:¬(a≤c∧c≤b)):lq c l=lq c r:=by rw[e];simp only[lq];rw[aG h]
theorem Jg(c:Int)(w:World)(hsp:yB w):
 Calls prog 121 #[.int .i64 c] w fun e w'=>e= .returned (.int .i64 (nD c))∧Below w.heap.size w w':=by
 obtain⟨lt,Zg,qN⟩:=hsp;have HL:Hid _:=qN;clear qN;go_enter func121,ntmps121;go_wp2_with (refine jb rfl 217 _ rfl 1 rfl lt dx Zg _ HL.o underlying217 rfl UX ?_);go_loopw [6] (fun i wr=>∃k:Nat,k≤14∧i= .int .i64 k∧Below w.heap.size w wr∧Hid (lq c (v_.drop k)=nD c)) (fun i _=>14-(intOf i).toNat)
 case atStart=>exact⟨0,jy _,rfl,dF _ _,rfl⟩
 case round=>
  obtain⟨k,hk,rfl,hbel,hno⟩:=hrel;by_cases hlt:k<14
  ·obtain⟨a,b,x,hidx,hdr,_,_,_⟩:=VG k hlt;have HD:Hid _:=hdr;clear hdr;go_wp2_with fail
   ·have h1:a≤c:=by assumption
    have h2:c≤b:=by assumption
    go_ret;exact⟨by rw[←hno.o,K3 HD.o h1 h2];rfl,hbel.alloc hbel.size _⟩
   ·have h2:b<c:=by assumption
    go_roundw
    case rel=>exact⟨k+1,by omega,by go_num,hbel.alloc hbel.size _,by rw[←hno.o,yR HD.o (by omega)];rfl⟩
    case measure=>simp[intOf];omega
   ·have h2:¬a≤c:=by assumption
    go_roundw
    case rel=>exact⟨k+1,by omega,by go_num,hbel.alloc hbel.size _,by rw[←hno.o,yR HD.o (by omega)];rfl⟩
    case measure=>simp[intOf];omega
  ·have Y4:k=14:=by omega
   subst Y4;go_wp2_with fail;go_ret;exact⟨by rw[←hno.o];rfl,hbel⟩
def o9:List (Int × Int):=[(106,9496),(107,9488),(108,9484),(109,9492),(110,9532),(113,9472),(116,9500),(117,9508),(118,9524),(119,9516),(120,9474)]
def nU (c:Int):List (Int × Int)→Int
 | []=>c
 |(a,b)::r=>if a=c then b else nU c r
theorem Hz(c:Int):nU c o9=TS.pR c:=by simp only[nU,o9,TS.pR,eq_comm (a:=c)]
def bU:Array Value:=#[.int .i64 106,.int .i64 9496,.int .i64 107,.int .i64 9488,.int .i64 108,.int .i64 9484,.int .i64 109,.int .i64 9492,.int .i64 110,.int .i64 9532,.int .i64 113,.int .i64 9472,.int .i64 116,.int .i64 9500,.int .i64 117,.int .i64 9508,.int .i64 118,.int .i64 9524,.int .i64 119,.int .i64 9516,.int .i64 120,.int .i64 9474]
def iX (w:World):Prop:=∃t fr,w.heap[2]? =some (.cells bU t fr)
theorem iX.kept{w w':World}(h:iX w)(hb:w'.heap[2]? =w.heap[2]?):iX w':=by obtain⟨t,fr,h⟩:=h;exact⟨t,fr,hb.trans h⟩
theorem Q_:(prog.info? 239).map (·.size)=some bU.size:=by kernel_rfl
theorem Zh(w:World):(Instr.index 239 (.agg bU) (.int .i64 0)).run prog w= .ok (.agg #[.int .i64 106,.int .i64 9496]) w:=by kernel_rfl
theorem Zi(w:World):(Instr.index 239 (.agg bU) (.int .i64 1)).run prog w= .ok (.agg #[.int .i64 107,.int .i64 9488]) w:=by kernel_rfl
theorem Zj(w:World):(Instr.index 239 (.agg bU) (.int .i64 2)).run prog w= .ok (.agg #[.int .i64 108,.int .i64 9484]) w:=by kernel_rfl
theorem Zk(w:World):(Instr.index 239 (.agg bU) (.int .i64 3)).run prog w= .ok (.agg #[.int .i64 109,.int .i64 9492]) w:=by kernel_rfl
theorem Zl(w:World):(Instr.index 239 (.agg bU) (.int .i64 4)).run prog w= .ok (.agg #[.int .i64 110,.int .i64 9532]) w:=by kernel_rfl
theorem Zm(w:World):(Instr.index 239 (.agg bU) (.int .i64 5)).run prog w= .ok (.agg #[.int .i64 113,.int .i64 9472]) w:=by kernel_rfl
theorem Zn(w:World):(Instr.index 239 (.agg bU) (.int .i64 6)).run prog w= .ok (.agg #[.int .i64 116,.int .i64 9500]) w:=by kernel_rfl
theorem Zo(w:World):(Instr.index 239 (.agg bU) (.int .i64 7)).run prog w= .ok (.agg #[.int .i64 117,.int .i64 9508]) w:=by kernel_rfl
theorem Zp(w:World):(Instr.index 239 (.agg bU) (.int .i64 8)).run prog w= .ok (.agg #[.int .i64 118,.int .i64 9524]) w:=by kernel_rfl
theorem Zq(w:World):(Instr.index 239 (.agg bU) (.int .i64 9)).run prog w= .ok (.agg #[.int .i64 119,.int .i64 9516]) w:=by kernel_rfl
theorem U9(w:World):(Instr.index 239 (.agg bU) (.int .i64 10)).run prog w= .ok (.agg #[.int .i64 120,.int .i64 9474]) w:=by kernel_rfl
theorem PL(k:Nat)(hk:k<11):∃a b:Int,(∀w,(Instr.index 239 (.agg bU) (.int .i64 k)).run prog w= .ok (.agg #[.int .i64 a,.int .i64 b]) w)∧o9.drop k=(a,b)::o9.drop (k+1):=by
 match k,hk with
 | 0,_=>exact⟨_,_,Zh,rfl⟩
 | 1,_=>exact⟨_,_,Zi,rfl⟩
 | 2,_=>exact⟨_,_,Zj,rfl⟩
 | 3,_=>exact⟨_,_,Zk,rfl⟩
 | 4,_=>exact⟨_,_,Zl,rfl⟩
 | 5,_=>exact⟨_,_,Zm,rfl⟩
 | 6,_=>exact⟨_,_,Zn,rfl⟩
 | 7,_=>exact⟨_,_,Zo,rfl⟩
 | 8,_=>exact⟨_,_,Zp,rfl⟩
 | 9,_=>exact⟨_,_,Zq,rfl⟩
 | 10,_=>exact⟨_,_,U9,rfl⟩
 |n+11,h=>omega
theorem G8{c:Int}{l r:List (Int × Int)}(e:l=(a,b)::r)(h:a=c):nU c l=b:=by rw[e];simp only[nU];rw[aS h]
theorem Et{c:Int}{l r:List (Int × Int)}(e:l=(a,b)::r)(h:¬a=c):nU c l=nU c r:=by rw[e];simp only[nU];rw[aG h]
theorem Lj(c:Int)(w:World)(hsp:iX w):Calls prog 168 #[.int .i64 c] w fun e w'=>e= .returned (.int .i64 (TS.pR c))∧Below w.heap.size w w':=by
 obtain⟨lt,Zg,qN⟩:=hsp;have HL:Hid _:=qN;clear qN;rw[←Hz];go_enter func168,ntmps168;go_wp2_with (refine jb rfl 239 _ rfl 2 rfl lt bU Zg _ HL.o underlying239 rfl Q_ ?_);go_loopw [6] (fun i wr=>∃k:Nat,k≤11∧i= .int .i64 k∧Below w.heap.size w wr∧Hid (nU c (o9.drop k)=nU c o9)) (fun i _=>11-(intOf i).toNat)
 case atStart=>exact⟨0,jy _,rfl,dF _ _,rfl⟩
 case round=>
  obtain⟨k,hk,rfl,hbel,hno⟩:=hrel;by_cases hlt:k<11
  ·obtain⟨a,b,hidx,hdr⟩:=PL k hlt;have HD:Hid _:=hdr;clear hdr;by_cases hac:a=c
   ·have bq:(a==c)=true:=by simp[hac]
    have HA:Hid _:=hac;clear hac;go_wp2_with fail;go_ret;exact⟨by rw[←hno.o,G8 HD.o HA.o];rfl,hbel.alloc hbel.size _⟩
   ·have bq:(a==c)=false:=by simp[hac]
    go_wp2_with fail;go_roundw
    case rel=>exact⟨k+1,by omega,by go_num,hbel.alloc hbel.size _,by rw[←hno.o,Et HD.o hac];rfl⟩
    case measure=>simp[intOf];omega
  ·have Y4:k=11:=by omega
   subst Y4;go_wp2_with fail;go_ret;exact⟨by rw[←hno.o];rfl,hbel⟩
theorem BG(L:Lay)(s:TS)(w:World)(ht:a_ w L s)(hst:iX w)(c:Int):Calls prog 126 #[.pointer (some ⟨L.tb,0,none⟩),.int .i64 c] w fun e w'=>e= .returned (.int .i64 (s.spelt c))∧Sm w w':=by
 have c34:=ht.c 34 _ rfl;have c35:=ht.c 35 _ rfl;have c36:=ht.c 36 _ rfl;have l1:=Lj c w hst;have hX:s.spelt c=if(if s.use=1 then s.second else s.first)=1 then TS.pR c else c:=rfl;generalize s.spelt c=X at*;clear ht hst;by_cases hu:s.use=1
 ·rw[aS hu]at hX;have bu:(s.use==1)=true:=by simp[hu]
  by_cases ha:s.second=1
  ·rw[aS ha]at hX;have ba:(s.second==1)=true:=by simp[ha]
   have HX:Hid _:=hX;clear hX hu ha;go_enter func126,ntmps126;go_wp2_with (go_at_call 168;refine l1.mono ?_;rintro e w1 ⟨rfl,b1⟩);go_ret;exact⟨by rw[HX.o];rfl,Ch.of_below b1⟩
  ·rw[aG ha]at hX;have ba:(s.second==1)=false:=by simp[ha]
   have HX:Hid _:=hX;clear hX hu ha;go_enter func126,ntmps126;go_wp2_with fail;go_ret;exact⟨by rw[HX.o];rfl,Ch.refl _ _⟩
 ·rw[aG hu]at hX;have bu:(s.use==1)=false:=by simp[hu]
  by_cases ha:s.first=1
  ·rw[aS ha]at hX;have ba:(s.first==1)=true:=by simp[ha]
   have HX:Hid _:=hX;clear hX hu ha;go_enter func126,ntmps126;go_wp2_with (go_at_call 168;refine l1.mono ?_;rintro e w1 ⟨rfl,b1⟩);go_ret;exact⟨by rw[HX.o];rfl,Ch.of_below b1⟩
  ·rw[aG ha]at hX;have ba:(s.first==1)=false:=by simp[ha]
   have HX:Hid _:=hX;clear hX hu ha;go_enter func126,ntmps126;go_wp2_with fail;go_ret;exact⟨by rw[HX.o];rfl,Ch.refl _ _⟩
end Go.Proofs.YtheibfffilomcabGreatDoor
