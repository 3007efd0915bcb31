import Derived.Test.YtheibfffilomcaaGreatDoorTmaU
import Derived.Test.YtheibfffilomcaaGreatDoorTl
set_option linter.all false
set_option maxRecDepth 100000
set_option maxHeartbeats 2000000
namespace Go.Proofs.YtheibfffilomcaaGreatDoor
open Go.RowKit Go.Proofs.Tryz
variable {w w' u:World} {L:Lay} {ah:Nat} {s':TS}
theorem cO.Fu{s:TS}(h:cO w L s){tabs:List Bool}(hb:w'.heap[L.gb]? =some (.cells (tabs.map Value.bool).toArray 4 (0,0)))(c:Ch (· =L.gb) w w'):cO w' L {s with tabs:=tabs}:=
 ⟨(c.block _ h.lt h.sep.tg).trans h.blk,h.h0.kept c h.sep.s0g (fun _ hg e=>h.sep.gx (e▸hg)),h.h1.kept c h.sep.s1g (fun _ hg e=>h.sep.gy (e▸hg)),hb,h.sep⟩
def yx:Value:=.slice none 0 0
def Kb (rows ah gb:Nat) (x y:Value):List Value:=
 [x,.int .i64 0,.int .i64 0,.bool false,.bool false,.bool false,.bool false,.int .i64 0,.int .i64 0,.int .i64 0,.int .i64 0,.int .i64 0,.bool false,
  y,.int .i64 0,.int .i64 0,.bool false,.bool false,.bool false,.bool false,.int .i64 0,.int .i64 0,.int .i64 0,.int .i64 0,.int .i64 0,.bool false,
  .int .i64 0,.int .i64 0,.bool false,.bool false,.bool false,.bool false,.int .i64 0,.int .i64 0,.int .i64 0,.int .i64 0,.int .i64 0,.bool false,
  .int .i64 0,.int .i64 ((rows:Int)-1),.bool true,.bool false,.int .i64 0,.slice (some ⟨gb,0,none⟩) ah ah]
def jN (ah n:Nat):List Bool:=(List.range ah).map fun c=>decide (0<c∧c % 8=0∧c<n)
def x_ (rows ah:Nat) (t:List Bool):TS:=
 ⟨rows,ah,List.replicate rows (iY ah),aY,List.replicate rows (iY ah),aY,0,0,false,mO,0,0,0,false,0,(rows:Int)-1,true,false,0,t⟩
structure StA (w:World) (rows ah:Nat) (x:World):Prop where
 t:x.heap[w.heap.size+1]? =some (.cells (Kb rows ah w.heap.size yx yx).toArray 164 (0,0))
 g:x.heap[w.heap.size]? =some (.cells (List.replicate ah (Value.bool false)).toArray 4 (0,0))
 b:Below w.heap.size w x
structure StB (w:World) (rows ah sb:Nat) (gs:List Nat) (x:World):Prop where
 t:x.heap[w.heap.size+1]? =some (.cells (Kb rows ah w.heap.size (.slice (some ⟨sb,0,none⟩) rows rows) yx).toArray 164 (0,0))
 g:x.heap[w.heap.size]? =some (.cells (List.replicate ah (Value.bool false)).toArray 4 (0,0))
 b:Below w.heap.size w x
 s:ShAt x sb gs ah (List.replicate rows (iY ah))
 h:w.heap.size+1<sb∧∀k∈gs,w.heap.size+1<k
theorem ac5:(jN ah 8).map Value.bool=List.replicate ah (Value.bool false):=by
 apply List.ext_getElem?;intro i;simp only[jN,List.map_map,pW,CW];by_cases h:i<ah
 ·rw[List.getElem?_range h,ak h];simp only[Option.map_some,Function.comp];have:decide (0<i∧i % 8=0∧i<8)=false:=by simp;omega
  rw[this]
 ·rw[wM (by simp;omega),ai h];rfl
theorem Y0:jN ah 8=jN ah 0:=by unfold jN;apply List.map_congr_left;intro a ha;rw[decide_eq_decide];omega
theorem Oq(ah k:Nat)(hk:k<ah):(jN ah k).set k (decide (0<k∧k % 8=0))=jN ah (k+1):=by
 apply List.ext_getElem?;intro i;rw[xX];simp only[jN,List.length_map,List.length_range];by_cases hi:k=i
 ·rw[ak hi,ak hk,pW,List.getElem?_range (by omega)];simp only[Option.map_some];have:decide (0<i∧i % 8=0∧i<k+1)=decide (0<k∧k % 8=0):=by rw[decide_eq_decide];omega
  rw[this]
 ·rw[ai hi,pW,pW];by_cases h:i<ah
  ·rw[List.getElem?_range h];simp only[Option.map_some];have:decide (0<i∧i % 8=0∧i<k)=decide (0<i∧i % 8=0∧i<k+1):=by rw[decide_eq_decide];omega
   rw[this]
  ·rw[wM (by simp;omega)];rfl
theorem Sk(ah n:Nat)(h:ah≤n):jN ah n=(List.range ah).map fun c=>decide (0<c∧c % 8=0):=by unfold jN;apply List.map_congr_left;intro a ha;rw[List.mem_range]at ha;rw[decide_eq_decide];omega
theorem CR(ah n:Nat):(jN ah n).length=ah:=by simp[jN]
theorem DI(k:Nat)(hk:k≤100)(w:World):Calls prog 161 #[.int .i64 (k:Int)] w fun e w'=>e= .returned (.bool (decide (0<k∧k % 8=0)))∧w'=w:=by
 by_cases h0:0<k
 ·have h1:(0:Int)<(k:Int):=by omega
  have e8:((k:Int) % 8==0)=decide (0<k∧k % 8=0):=by
   by_cases h:k % 8=0
   ·rw[iP ⟨h0,h⟩];simp;omega
   ·rw[jh (fun e=>h e.2)];simp;omega
  have E8:Hid _:=e8;clear e8;go_enter func161,ntmps161;go_wp2_with fail;go_ret;exact⟨by rw[←E8.o];rfl,rfl⟩
 ·have h0:k=0:=by omega
  subst h0;go_enter func161,ntmps161;go_wp2_with fail;go_ret;exact⟨rfl,rfl⟩
theorem IJ(rows ah:Nat)(w:World)(hr:1≤rows∧rows≤12)(hc:1≤ah∧ah≤40):Calls prog 92 #[.int .i64 (rows:Int),.int .i64 (ah:Int)] w fun e w'=>∃L:Lay,e= .returned (.pointer (some ⟨L.tb,0,none⟩))∧cO w' L (TS.fresh rows ah)∧(∀k,L.own k→w.heap.size≤k)∧Below w.heap.size w w':=by
 have v1:IntKind.i64.wrap ((rows:Int)-1)=(rows:Int)-1:=bD _ (by omega);go_enter func92,ntmps92;go_wp2_with (refine IX _ rfl 162 4 _ 1 underlying162 YF (by omega) rfl (.tmp 11) (.tmp 11) rfl ah rfl rfl (by omega) ?_;intro w1 h1 b1 z1);have RA:StA w rows ah (w1.alloc (.cells (Kb rows ah w.heap.size yx yx).toArray 164)):=⟨by rw[←z1];exact bV _ _,(gK _ _ _ (by omega)).trans h1,b1.alloc b1.size _⟩;have WR:Hid _:=RA;clear RA h1 b1;go_loopw [15] (fun i wr=>(i= .int .i64 0∧StA w rows ah wr)∨(i= .int .i64 1∧∃sb gs,StB w rows ah sb gs wr)∨(i= .int .i64 2∧∃L:Lay,L.tb=w.heap.size+1∧L.gb=w.heap.size∧cO wr L (x_ rows ah (jN ah 8))∧(∀k,L.own k→w.heap.size≤k)∧Below w.heap.size w wr)) (fun i _=>2-(intOf i).toNat)
 case atStart=>exact Or.inl ⟨rfl,WR.o⟩
 case round=>
  clear WR z1 w1;rcases hrel with⟨rfl,R⟩|⟨rfl,sb0,gs0,R⟩|⟨rfl,L,hLt,V4,R,hO,hB⟩
  ·have HT0:World.heap ({wr with drawn:=wr.drawn+1}:World)=wr.heap:=rfl;go_wp2_with fail;refine dX (S:=fun _=>True) aX ?_;refine ay 0 1 2 3 trivial ?_;simp only[ag,af];refine dW 5 6 trivial ?_;simp only[ag,af];refine av 4 ?_;refine a_ (vs:=[.int .i64 (rows:Int),.int .i64 (ah:Int)]) (R:=fun v w'=>∃sb gs,v= .slice (some ⟨sb,0,none⟩) rows rows∧wr.heap.size≤sb∧(∀g∈gs,wr.heap.size≤g)∧ShAt w' sb gs ah (List.replicate rows (iY ah))∧Below wr.heap.size wr w') ((yw rows ah _ (by omega) (by omega)).mono fun e w' ⟨sb,gs,q1,q2,q3,q4,q5⟩=>⟨_,q1,sb,gs,rfl,q2,q3,q4,⟨q5.os,q5.tape,q5.output,q5.size,q5.block⟩⟩) ?_;rintro v2 u2 ⟨sb,gs,rfl,hsb,hgs,hsh,iB⟩;refine⟨trivial,?_⟩;simp only[ag,af];refine aj 7 trivial ?_ (v:=.pointer (some ⟨w.heap.size+1,0,none⟩));refine aj 8 trivial ?_;simp only[ag,af];refine av 9 ?_;refine mh 158 (by kernel_rfl) (.tmp 26) (.tmp 22) rfl rfl (w.heap.size+1) 0 (Kb rows ah w.heap.size yx yx) (Kb rows ah w.heap.size (.slice (some ⟨sb,0,none⟩) rows rows) yx) (.slice (some ⟨sb,0,none⟩) rows rows) (by show 0<44;omega) rfl rfl rfl rfl rfl 164 ((iB.block _ (aK R.t)).trans R.t) ?_;intro u3 g3 k3;refine⟨trivial,?_⟩;refine aC ?_;have hsz:=aK R.t;have F:StB w rows ah sb gs u3:=⟨g3,(k3.block _ (fJ (by omega) iB.size) (by omega)).trans ((iB.block _ (by omega)).trans R.g),R.b.trans ⟨k3.os.trans iB.os,k3.tape.trans iB.tape,k3.output.trans iB.output,iD iB.size k3.size,fun k hk=>(k3.block k (fJ (by omega) iB.size) (by omega)).trans (iB.block k (by omega))⟩,hsh.kept k3 (by omega) (fun g hg=>by have:=hgs g hg;omega),by omega,fun g hg=>by have:=hgs g hg;omega⟩;clear g3 k3 hsh iB R HT0;go_wp2_with fail;go_roundw
   case rel=>exact Or.inr (Or.inl ⟨by go_num,sb,gs,F⟩)
   case measure=>simp[intOf]
  ·have HT0:World.heap ({wr with drawn:=wr.drawn+1}:World)=wr.heap:=rfl;go_wp2_with fail;refine dX (S:=fun _=>True) aX ?_;refine ay 0 1 2 3 trivial ?_;simp only[ag,af];refine dW 5 6 trivial ?_;simp only[ag,af];refine av 4 ?_;refine a_ (vs:=[.int .i64 (rows:Int),.int .i64 (ah:Int)]) (R:=fun v w'=>∃sb gs,v= .slice (some ⟨sb,0,none⟩) rows rows∧wr.heap.size≤sb∧(∀g∈gs,wr.heap.size≤g)∧ShAt w' sb gs ah (List.replicate rows (iY ah))∧Below wr.heap.size wr w') ((yw rows ah _ (by omega) (by omega)).mono fun e w' ⟨sb,gs,q1,q2,q3,q4,q5⟩=>⟨_,q1,sb,gs,rfl,q2,q3,q4,⟨q5.os,q5.tape,q5.output,q5.size,q5.block⟩⟩) ?_;rintro v2 u2 ⟨sb,gs,rfl,hsb,hgs,hsh,iB⟩;refine⟨trivial,?_⟩;simp only[ag,af];refine aj 7 trivial ?_ (v:=.pointer (some ⟨w.heap.size+1,13,none⟩));refine aj 8 trivial ?_;simp only[ag,af];refine av 9 ?_;refine mh 158 (by kernel_rfl) (.tmp 26) (.tmp 22) rfl rfl (w.heap.size+1) 13 (Kb rows ah w.heap.size (.slice (some ⟨sb0,0,none⟩) rows rows) yx) (Kb rows ah w.heap.size (.slice (some ⟨sb0,0,none⟩) rows rows) (.slice (some ⟨sb,0,none⟩) rows rows)) (.slice (some ⟨sb,0,none⟩) rows rows) (by show 13<44;omega) rfl rfl rfl rfl rfl 164 ((iB.block _ (aK R.t)).trans R.t) ?_;intro u3 g3 k3;refine⟨trivial,?_⟩;refine aC ?_;have hsz:=aK R.t;have hs0:=R.s.lt;have hg0:∀g∈gs0,g<wr.heap.size:=fun g hg=>R.s.glt hg;have hh0:=R.h;have sh0:ShAt u3 sb0 gs0 ah (List.replicate rows (iY ah)):=R.s.kept (P:=fun k=>k=w.heap.size+1) ⟨k3.os.trans iB.os,k3.tape.trans iB.tape,k3.output.trans iB.output,iD iB.size k3.size,fun k hk hn=>(k3.block k (fJ hk iB.size) hn).trans (iB.block k hk)⟩ (by omega) (fun g hg=>by have:=hh0.2 g hg;omega);have sep:Lay.Sep ⟨w.heap.size+1,sb0,sb,w.heap.size,gs0,gs⟩:=⟨by show w.heap.size+1≠sb0;omega,by show w.heap.size+1≠sb;omega,by show w.heap.size+1≠w.heap.size;omega,by show sb0≠sb;omega,by show sb0≠w.heap.size;omega,by show sb≠w.heap.size;omega,fun(hm:w.heap.size+1∈gs0)=>by have:=hh0.2 _ hm;omega,fun(hm:w.heap.size+1∈gs)=>by have:=hgs _ hm;omega,fun(hm:w.heap.size∈gs0)=>by have:=hh0.2 _ hm;omega,fun(hm:w.heap.size∈gs)=>by have:=hgs _ hm;omega,fun(hm:sb0∈gs)=>by have:=hgs _ hm;omega,fun(hm:sb∈gs0)=>by have:=hg0 _ hm;omega,fun g hg hm=>by have:=hgs _ hm;have:=hg0 _ hg;omega⟩;have F:cO u3 ⟨w.heap.size+1,sb0,sb,w.heap.size,gs0,gs⟩ (x_ rows ah (jN ah 8)):=⟨g3,sh0,hsh.kept k3 (by omega) (fun g hg=>by have:=hgs g hg;omega),by show u3.heap[w.heap.size]? =some (Obj.cells ((jN ah 8).map Value.bool).toArray 4 (0,0));rw[ac5];exact(k3.block _ (fJ (by omega) iB.size) (by omega)).trans ((iB.block _ (by omega)).trans R.g),sep⟩;have FB:Below w.heap.size w u3:=R.b.trans ⟨k3.os.trans iB.os,k3.tape.trans iB.tape,k3.output.trans iB.output,iD iB.size k3.size,fun k hk=>(k3.block k (fJ (by omega) iB.size) (by omega)).trans (iB.block k (by omega))⟩;have FO:∀k,Lay.own ⟨w.heap.size+1,sb0,sb,w.heap.size,gs0,gs⟩ k→w.heap.size≤k:=fun k hk=>by
    rcases hk with e|e|e|e|e|e
    ·rw[e];show w.heap.size≤w.heap.size+1;omega
    ·rw[e];show w.heap.size≤sb0;omega
    ·rw[e];show w.heap.size≤sb;omega
    ·rw[e];exact bN _
    ·have:=hh0.2 k e;omega
    ·have:=hgs k e;omega
   clear g3 k3 hsh iB R HT0;go_wp2_with fail;go_roundw
   case rel=>exact Or.inr (Or.inr ⟨by go_num,⟨w.heap.size+1,sb0,sb,w.heap.size,gs0,gs⟩,rfl,rfl,F,FO,FB⟩)
   case measure=>simp[intOf]
  ·have HR:Hid _:=R;have HB:Hid _:=hB;clear R hB;have c43:=HR.o.c 43 _ rfl;rw[hLt]at c43;have c43':wr.cell? ⟨w.heap.size+1,43,none⟩=some (.slice (some ⟨L.gb,0,none⟩) ah ah):=c43;clear c43;go_wp2_with fail;go_loopw [33] (fun i wr=>∃k:Nat,i= .int .i64 (k:Int)∧k≤ah∧cO wr L (x_ rows ah (jN ah k))∧Below w.heap.size w wr) (fun i _=>ah-(intOf i).toNat)
   case atStart=>exact⟨0,rfl,by omega,by rw[←Y0];exact HR.o,HB.o⟩
   case round=>
    clear HR HB c43';obtain⟨k,rfl,hk,R,hB⟩:=hrel;by_cases hlt:k<ah
    ·have ik:(k:Int)<(ah:Int):=by omega
     have v1:IntKind.i64.wrap ((k:Int)+1)=(k:Int)+1:=bD _ (by omega);have e8:=Oq ah k hlt;have HS:Hid (((jN ah k).map Value.bool).set k (.bool (decide (0<k∧k % 8=0)))=(jN ah (k+1)).map Value.bool):=by rw[←e8,List.map_set];exact rfl
     have HR:Hid (cO ({wr with drawn:=wr.drawn+1}:World) L (x_ rows ah (jN ah k))):=R.sm ((Ch.refl _ _).drewN 1);have HB:Hid _:=hB;have HH:World.cell? ({wr with drawn:=wr.drawn+1}:World) ⟨w.heap.size+1,43,none⟩=some (.slice (some ⟨w.heap.size,0,none⟩) ah ah):=by have:=HR.o.c 43 _ rfl;rw[hLt,V4]at this;exact this
     clear R hB e8;go_wp2_with fail;refine dX (S:=fun x=>x.cell? ⟨w.heap.size+1,43,none⟩=some (.slice (some ⟨w.heap.size,0,none⟩) ah ah)) aX ?_;refine ay 0 1 2 3 HH ?_;simp only[ag,af];refine dW 4 5 HH ?_;simp only[ag,af];refine av 6 ?_;refine dN (vs:=[.int .i64 (k:Int)]) (DI k (by omega) _) ?_;rintro v2 w2 ⟨rfl,rfl⟩;refine⟨HH,?_⟩;simp only[ag,af];refine aj 7 HH ?_ (v:=.pointer (some ⟨w.heap.size,k,none⟩));simp only[ag,af];refine av 8 ?_;refine mh 4 xA (.tmp 43) (.tmp 42) rfl rfl w.heap.size k ((jN ah k).map Value.bool) _ (.bool (decide (0<k∧k % 8=0))) (by rw[List.length_map,CR];exact hlt) rfl rfl rfl rfl HS.o 4 (by rw[←V4];exact HR.o.tab) ?_;intro u5 g5 k5;have F:cO u5 L (x_ rows ah (jN ah (k+1))):=HR.o.Fu (by rw[V4];exact g5) (by rw[V4];exact k5);have FB:Below w.heap.size w u5:=HB.o.trans (Ch.below (⟨k5.os,k5.tape,k5.output,k5.size,k5.block⟩:Ch (· =w.heap.size) wr u5) HB.o.size (fun k hk e=>by omega));refine⟨by have:=F.c 43 _ rfl;rw[hLt,V4]at this;exact this,?_⟩;refine aC ?_;clear g5 k5 HR HB HS HH;go_wp2_with fail;go_roundw
     case rel=>exact⟨k+1,by go_num,by omega,F,FB⟩
     case measure=>simp[intOf];omega
    ·have dq:¬(k:Int)<(ah:Int):=by omega
     have ef:=Sk ah k (by omega);have F:cO wr L (TS.fresh rows ah):=by rw[ef]at R;exact R
     have HF:Hid _:=F;have HB:Hid _:=hB;clear R hB F ef;go_wp2_with fail;go_ret;exact⟨L,by rw[hLt];rfl,HF.o,hO,HB.o⟩
def Next (L:Lay) (w w':World) (s':TS):Prop:=∃L':Lay,L'.tb=L.tb∧cO w' L' s'∧Ch L.own w w'∧∀k,L'.own k→L.own k∨w.heap.size≤k
theorem Next.of(h:cO w' L s')(c:Ch L.own w w'):Next L w w' s':=⟨L,rfl,h,c,fun _ hk=>.inl hk⟩
theorem Next.ahead(c:Ch L.own w u)(h:Next L u w' s'):Next L w w' s':=by obtain⟨L',h1,h2,h3,h4⟩:=h;exact⟨L',h1,h2,c.trans h3,fun k hk=>(h4 k hk).imp id (fun q=>iD c.size q)⟩
theorem TS.Inv.fresh{rows:Nat}(hr:1≤rows∧rows≤12)(hc:1≤ah∧ah≤40):(TS.fresh rows ah).Inv:=
 ⟨hr.1,hr.2,hc.1,hc.2,Int.le_refl _,by show(0:Int)<(rows:Int);omega,Int.le_refl _,by show(0:Int)<(ah:Int);omega,Int.le_refl _,by show(0:Int)≤(rows:Int)-1;omega,by show(rows:Int)-1<(rows:Int);omega,.inl rfl,
  by simp[TS.fresh],by simp[TS.fresh],by simp[TS.fresh],⟨Int.le_refl _,by show(0:Int)<(rows:Int);omega⟩,⟨Int.le_refl _,by show(0:Int)<(ah:Int);omega⟩,⟨Int.le_refl _,by show(0:Int)<(rows:Int);omega⟩,⟨Int.le_refl _,by show(0:Int)<(ah:Int);omega⟩⟩
theorem Ow(L:Lay)(s:TS):∀v∈mg L s,v.oneCell'=true:=by intro v hv;have:(mg L s).all (·.oneCell')=true:=rfl;exact List.all_eq_true.1 this v hv
theorem L9:(prog.info? 164).map (·.size)=some 44:=by kernel_rfl
theorem sF(L:Lay)(s:TS)(w:World)(ht:cO w L s)(hi:s.Inv):Calls prog 147 #[.pointer (some ⟨L.tb,0,none⟩)] w fun e w'=>e= .returned (.tuple #[.int .i64 (s.rows:Int),.int .i64 (s.ah:Int)])∧w'=w:=by
 have l1:=rA L s w ht hi;have l2:=pE L s w ht hi;have hr2:=hi.r2;have hc2:=hi.c2;have v1:IntKind.i64.wrap ((s.rows:Int)-1+1)=(s.rows:Int):=by rw[Int.sub_add_cancel];exact bD _ (by omega)
 have v2:IntKind.i64.wrap ((s.ah:Int)-1+1)=(s.ah:Int):=by rw[Int.sub_add_cancel];exact bD _ (by omega)
 have v3:IntKind.i64.wrap (s.rows:Int)=(s.rows:Int):=bD _ (by omega);have v4:IntKind.i64.wrap (s.ah:Int)=(s.ah:Int):=bD _ (by omega);clear ht hi;go_enter func147,ntmps147;go_wp2_with (first|(go_at_call 154;refine l1.mono ?_;rintro e w1 ⟨rfl,hw1⟩;have hw2:=hw1.symm;subst hw2)|(go_at_call 105;refine l2.mono ?_;rintro e w1 ⟨rfl,hw1⟩;have hw2:=hw1.symm;subst hw2));go_ret2;exact⟨rfl,rfl⟩
theorem PZ(L:Lay)(s:TS)(w:World)(ht:cO w L s)(hi:s.Inv)(f:Int):Calls prog 108 #[.pointer (some ⟨L.tb,0,none⟩),.int .i64 f] w fun e w'=>e= .returned (.tuple #[])∧Next L w w' (s.bare f):=by
 have c28:=ht.c 28 _ rfl;have f28:=ht.f 28;have HT:Hid _:=ht;have hu:=ht.set (s':=s.aF) 28 (.bool false) rfl rfl rfl rfl rfl;have HU:Hid _:=hu;have HI:Hid s.Inv:=hi;have CU:Hid (Ch L.own w (w.setCell ⟨L.tb,28,none⟩ (.bool false))):=(Ch.refl _ _).nJ _ _;have hr2:=hi.r2;have hr1:=hi.r1;have hc1:=hi.c1;have hc2:=hi.c2;have hlt:=ht.lt;clear ht hu hi;rcases(show f=55∨f=56∨f=68∨f=77∨f=69∨f=72∨f=99∨¬(f=55∨f=56∨f=68∨f=77∨f=69∨f=72∨f=99) by omega)with rfl|rfl|rfl|rfl|rfl|rfl|rfl|hf
 ·rw[show s.bare 55=s.save from rfl];go_enter func108,ntmps108;go_wp2_with (go_at_call 175;refine(RH L s w HT.o HI.o).mono ?_;rintro e w1 ⟨rfl,h1,c1⟩);go_end0;exact⟨rfl,Next.of h1 (c1)⟩
 ·rw[show s.bare 56=s.restore from rfl];go_enter func108,ntmps108;go_wp2_with (go_at_call 176;refine(Ie L s w HT.o HI.o).mono ?_;rintro e w1 ⟨rfl,h1,c1⟩);go_end0;exact⟨rfl,Next.of h1 (c1)⟩
 ·rw[show s.bare 68=s.aF.down from rfl];go_enter func108,ntmps108;go_wp2_with (go_at_call 107;refine(sJ L s.aF _ HU.o HI.o.aF).mono ?_;rintro e w1 ⟨rfl,h1,c1⟩);go_end0;exact⟨rfl,Next.of h1 (CU.o.trans c1)⟩
 ·rw[show s.bare 77=s.aF.up from rfl];go_enter func108,ntmps108;go_wp2_with (go_at_call 177;refine(Vz L s.aF _ HU.o HI.o.aF).mono ?_;rintro e w1 ⟨rfl,h1,c1⟩);go_end0;exact⟨rfl,Next.of h1 (CU.o.trans c1)⟩
 ·rw[show s.bare 69=s.aF.bE from rfl];go_enter func108,ntmps108;go_wp2_with (go_at_call 99;refine(tV L s.aF _ HU.o HI.o.aF).mono ?_;rintro e w1 ⟨rfl,h1,c1⟩);go_end0;exact⟨rfl,Next.of h1 (CU.o.trans c1)⟩
 ·rw[show s.bare 72= {s with tabs:=s.tabs.set s.col.toNat true} from rfl];obtain⟨cc,hcc⟩:∃cc:Nat,s.col=(cc:Int):=⟨s.col.toNat,by have:=HI.o.jA;omega⟩;have hcl:cc<s.ah:=by have:=HI.o.jD;omega
  have hcl':(cc:Int)<(s.ah:Int):=by omega
  rw[show s.col.toNat=cc by rw[hcc];rfl];have htl:cc<s.tabs.length:=by rw[HI.o.lt];exact hcl
  have HT0:cO ({w with drawn:=w.drawn+1}:World) L s:=HT.o.sm ((Ch.refl _ _).drewN 1);have HH:World.cell? ({w with drawn:=w.drawn+1}:World) ⟨L.tb,43,none⟩=some (.slice (some ⟨L.gb,0,none⟩) s.ah s.ah)∧World.cell? ({w with drawn:=w.drawn+1}:World) ⟨L.tb,27,none⟩=some (.int .i64 (cc:Int)):=⟨HT0.c 43 _ rfl,by rw[←hcc];exact HT0.c 27 _ rfl⟩;go_enter func108,ntmps108;go_wp2_with fail;refine dX (S:=fun x=>x.cell? ⟨L.tb,43,none⟩=some (.slice (some ⟨L.gb,0,none⟩) s.ah s.ah)∧x.cell? ⟨L.tb,27,none⟩=some (.int .i64 (cc:Int))) aX ?_;refine ay 0 1 2 3 HH ?_;simp only[ag,af];refine ay 4 5 6 7 HH ?_;simp only[ag,af];refine dW 8 9 HH ?_;refine aj 10 HH ?_ (v:=.pointer (some ⟨L.gb,cc,none⟩));simp only[ag,af];refine av 11 ?_;refine mh 4 xA (.tmp 52) _ rfl rfl L.gb cc (s.tabs.map Value.bool) ((s.tabs.set cc true).map Value.bool) (.bool true) (by rw[List.length_map];exact htl) rfl rfl rfl rfl (by rw[List.map_set]) 4 HT0.tab ?_;intro u3 g3 k3;have T3:=HT0.Fu g3 k3;refine⟨⟨T3.c 43 _ rfl,by rw[←hcc];exact T3.c 27 _ rfl⟩,?_⟩;refine aC ?_;have HF:Hid (cO u3 L {s with tabs:=s.tabs.set cc true}∧Ch L.own w u3):=⟨T3,(⟨k3.os,k3.tape,k3.output,k3.size,k3.block⟩:Ch (· =L.gb) w u3).mono fun k _ e=>.inr (.inr (.inr (.inl e)))⟩;clear T3 k3 g3 HT0 HH;go_wp2_with fail;go_end0;exact⟨rfl,Next.of HF.o.1 HF.o.2⟩
 ·rw[show s.bare 99=TS.fresh s.rows s.ah from rfl];have l1:=sF L s w HT.o HI.o;have l3:=IJ s.rows s.ah w ⟨hr1,hr2⟩ ⟨hc1,hc2⟩;clear c28 f28 HU CU;go_enter func108,ntmps108;go_wp2_with (first|(go_at_call 147;refine l1.mono ?_;rintro e w1 ⟨rfl,hw1⟩;have hw2:=hw1.symm;subst hw2)|(go_at_call 92;refine l3.mono ?_;rintro e w3 ⟨L',rfl,t3,o3,b3⟩)|(refine fC rfl 164 (.tmp 61) rfl L'.tb rfl 164 _ (0,0) _ t3.blk underlying164 rfl L9 ?_)|(refine bK _ rfl 164 (.tmp 63) (.tmp 62) rfl L.tb (mg L s) (mg L' (TS.fresh s.rows s.ah)) rfl _ rfl rfl 164 ((b3.block _ hlt).trans HT.o.blk) rfl L9 (Ow _ _) ?_));intro u4 g4 k4 z4;have hn:∀k,L'.own k→k≠L.tb:=fun k hk=>by have:=o3 k hk;omega
  have T4:=t3.kept k4 hn;have hsep:=T4.sep;have T5:cO u4 {L' with tb:=L.tb} (TS.fresh s.rows s.ah):=⟨g4,T4.h0,T4.h1,T4.tab,⟨fun e=>hn _ (.inr (.inl rfl)) e.symm,fun e=>hn _ (.inr (.inr (.inl rfl))) e.symm,fun e=>hn _ (.inr (.inr (.inr (.inl rfl)))) e.symm,hsep.s01,hsep.s0g,hsep.s1g,fun h=>hn _ (.inr (.inr (.inr (.inr (.inl h))))) rfl,fun h=>hn _ (.inr (.inr (.inr (.inr (.inr h))))) rfl,hsep.gx,hsep.gy,hsep.s0y,hsep.s1x,hsep.xy⟩⟩
  have N:Next L w u4 (TS.fresh s.rows s.ah):=⟨{L' with tb:=L.tb},rfl,T5,(Ch.of_below b3).trans (k4.mono fun k _ e=>.inl e),fun k hk=>by
   rcases hk with e|e|e|e|e|e
   ·exact .inl (.inl e)
   ·exact .inr (o3 k (.inr (.inl e)))
   ·exact .inr (o3 k (.inr (.inr (.inl e))))
   ·exact .inr (o3 k (.inr (.inr (.inr (.inl e)))))
   ·exact .inr (o3 k (.inr (.inr (.inr (.inr (.inl e))))))
   ·exact .inr (o3 k (.inr (.inr (.inr (.inr (.inr e))))))⟩
  clear T4 T5 t3 g4 k4 b3 hsep;go_wp2_with fail;go_end0;exact⟨rfl,N⟩
 ·have e:s.bare f=s:=by unfold TS.bare;simp only[ai (show¬f=55 by omega),ai (show¬f=56 by omega),ai (show¬f=68 by omega),ai (show¬f=77 by omega),ai (show¬f=69 by omega),ai (show¬f=72 by omega),ai (show¬f=99 by omega)]
  rw[e];clear e;have b55:(f==55)=false:=by simp;omega
  have b56:(f==56)=false:=by simp;omega
  have b68:(f==68)=false:=by simp;omega
  have b77:(f==77)=false:=by simp;omega
  have b69:(f==69)=false:=by simp;omega
  have b72:(f==72)=false:=by simp;omega
  have b99:(f==99)=false:=by simp;omega
  have HF:Hid _:=hf;clear hf;go_enter func108,ntmps108;go_wp2_with fail;go_end0;exact⟨rfl,Next.of HT.o (Ch.refl _ _)⟩
theorem kD{g j:Nat}{ev:List Int}{t:TypeId}{fr:Nat × Nat}(h:u.heap[g]? =some (.cells (aA ev) t fr))(hj:j<ev.length):u.cell? ⟨g,j,none⟩=some (.int .i64 (ev.getD j 0)):=by rw[bG _ _ _ _ _ _ h,aA,CZ];exact jo ev j hj
theorem JM(L:Lay)(s:TS)(w:World)(ht:cO w L s)(hi:s.Inv)(ev:List Int)(hev:ev.length=21):Calls prog 57 #[.pointer (some ⟨L.tb,0,none⟩),.agg (aA ev)] w fun e w'=>e= .returned (.tuple #[])∧Next L w w' (s.escape (ev.getD 2 0) (ev.getD 3 0)):=by
 have HT0:=ht.sm ((Ch.refl (fun _=>False) w).alloc (.cells (aA ev) 46));have e2:(w.alloc (.cells (aA ev) 46)).cell? ⟨w.heap.size,2,none⟩=some (.int .i64 (ev.getD 2 0)):=kD (bV _ _) (by omega);have e3:(w.alloc (.cells (aA ev) 46)).cell? ⟨w.heap.size,3,none⟩=some (.int .i64 (ev.getD 3 0)):=kD (bV _ _) (by omega);have ng:Hid (Ch L.own w (w.alloc (.cells (aA ev) 46))):=(Ch.refl _ _).alloc _;have Di:Hid (¬L.own w.heap.size):=fun h=>by have:=ht.pQ h;omega
 have FP:Hid (w.heap.size<(w.alloc (.cells (aA ev) 46)).heap.size):=by show _<_;simp
 have hlt:=ht.lt;generalize ev.getD 2 0=mk at*;generalize ev.getD 3 0=fi at*;have HI:Hid s.Inv:=hi;clear ht hi;rcases(show mk=0∨mk=40∨mk=41∨¬(mk=0∨mk=40∨mk=41) by omega)with rfl|rfl|rfl|hm
 ·rw[show s.escape 0 fi=s.bare fi from rfl];have l1:=PZ L s _ HT0 HI.o fi;have HT:Hid _:=HT0;clear HT0;go_enter func57,ntmps57;go_wp2_with (go_at_call 108;refine l1.mono ?_;rintro e w1 ⟨rfl,n1⟩);go_end0;exact⟨rfl,Next.ahead ng.o n1⟩
 ·rw[show s.escape 40 fi= {s with first:=TS.dQ fi s.first} from rfl];have HT:Hid _:=HT0;clear HT0;go_enter func57,ntmps57;go_wp2_with fail;generalize hW:w.alloc (Obj.cells (aA ev) 46)=W at*;generalize hlb:w.heap.size=lb at*;have HT0:cO ({W with drawn:=W.drawn+1}:World) L s:=HT.o.sm ((Ch.refl _ _).drewN 1);have HH:World.cell? ({W with drawn:=W.drawn+1}:World) ⟨lb,3,none⟩=some (.int .i64 fi):=e3;refine dX (S:=fun x=>x.cell? ⟨lb,3,none⟩=some (.int .i64 fi)) aX ?_;refine ay 0 1 2 3 HH ?_;simp only[ag,af];refine ay 4 5 6 7 HH ?_;simp only[ag,af];refine av 8 ?_;refine qz 22 (.tmp 21) rfl rfl _ s.first rfl (HT0.c 34 _ rfl) ?_;refine⟨HH,?_⟩;simp only[ag,af];refine av 9 ?_;refine dN (vs:=[.int .i64 fi,.int .i64 s.first]) (x9 _ _ _) ?_;rintro v2 w9 ⟨rfl,rfl⟩;refine⟨HH,?_⟩;simp only[ag,af];refine ay 10 11 12 13 HH ?_;simp only[ag,af];refine av 14 ?_;refine Ck 3 zq (.tmp 27) (.tmp 23) rfl rfl L s {s with first:=TS.dQ fi s.first} 34 (.int .i64 (TS.dQ fi s.first)) rfl rfl rfl rfl HT0 (by omega) rfl rfl rfl rfl rfl ?_;intro u' ht' uG hcell;refine⟨(dA (uG.block lb FP.o (fun h=>Di.o h))).trans HH,?_⟩;clear hcell;refine aC ?_;have HF:Hid (cO u' L {s with first:=TS.dQ fi s.first}∧Ch L.own W u'):=⟨ht',⟨uG.os,uG.tape,uG.output,uG.size,uG.block⟩⟩;clear ht' uG HT0 HH;go_wp2_with fail;go_end0;exact⟨rfl,Next.ahead ng.o (Next.of HF.o.1 HF.o.2)⟩
 ·rw[show s.escape 41 fi= {s with second:=TS.dQ fi s.second} from rfl];have HT:Hid _:=HT0;clear HT0;go_enter func57,ntmps57;go_wp2_with fail;generalize hW:w.alloc (Obj.cells (aA ev) 46)=W at*;generalize hlb:w.heap.size=lb at*;have HT0:cO ({W with drawn:=W.drawn+1}:World) L s:=HT.o.sm ((Ch.refl _ _).drewN 1);have HH:World.cell? ({W with drawn:=W.drawn+1}:World) ⟨lb,3,none⟩=some (.int .i64 fi):=e3;refine dX (S:=fun x=>x.cell? ⟨lb,3,none⟩=some (.int .i64 fi)) aX ?_;refine ay 0 1 2 3 HH ?_;simp only[ag,af];refine ay 4 5 6 7 HH ?_;simp only[ag,af];refine av 8 ?_;refine qz 38 (.tmp 37) rfl rfl _ s.second rfl (HT0.c 35 _ rfl) ?_;refine⟨HH,?_⟩;simp only[ag,af];refine av 9 ?_;refine dN (vs:=[.int .i64 fi,.int .i64 s.second]) (x9 _ _ _) ?_;rintro v2 w9 ⟨rfl,rfl⟩;refine⟨HH,?_⟩;simp only[ag,af];refine ay 10 11 12 13 HH ?_;simp only[ag,af];refine av 14 ?_;refine Ck 3 zq (.tmp 43) (.tmp 39) rfl rfl L s {s with second:=TS.dQ fi s.second} 35 (.int .i64 (TS.dQ fi s.second)) rfl rfl rfl rfl HT0 (by omega) rfl rfl rfl rfl rfl ?_;intro u' ht' uG hcell;refine⟨(dA (uG.block lb FP.o (fun h=>Di.o h))).trans HH,?_⟩;clear hcell;refine aC ?_;have HF:Hid (cO u' L {s with second:=TS.dQ fi s.second}∧Ch L.own W u'):=⟨ht',⟨uG.os,uG.tape,uG.output,uG.size,uG.block⟩⟩;clear ht' uG HT0 HH;go_wp2_with fail;go_end0;exact⟨rfl,Next.ahead ng.o (Next.of HF.o.1 HF.o.2)⟩
 ·have e:s.escape mk fi=s:=by unfold TS.escape;simp only[ai (show¬mk=0 by omega),ai (show¬mk=40 by omega),ai (show¬mk=41 by omega)]
  rw[e];have b0:(mk==0)=false:=by simp;omega
  have b1:(mk==40)=false:=by simp;omega
  have b2:(mk==41)=false:=by simp;omega
  have HT:Hid _:=HT0;clear HT0 e hm;go_enter func57,ntmps57;go_wp2_with fail;go_end0;exact⟨rfl,Next.ahead ng.o (Next.of HT.o (Ch.refl _ _))⟩
end Go.Proofs.YtheibfffilomcaaGreatDoor
