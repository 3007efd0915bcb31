import Derived.Test.YtheibfffilomcaaGreatDoorTmaU
import Derived.Test.YtheibfffilomcaaGreatDoorDcU
import Derived.Deep.QuietTactic
import Derived.BigQuiet
set_option linter.all false
namespace Go.Proofs.YtheibfffilomcaaGreatDoor
open Go.RowKit Go.Proofs.Tryz
variable {w w':World} {ops:Array Oper} {rest:List Oper} {a:Act} {Q:Exit→Act→World→Prop} {k:Nat} {S:bS}
def nG:aI:=⟨0,mO,0⟩
theorem Rc(n:Nat):madeCells (dw nG) (n*7)=BP (List.replicate n nG):=by
 apply Array.ext_getElem?;intro i;have hr:(BP (List.replicate n nG))[i]? =(kN (List.replicate n nG))[i]? :=by simp[BP]
 rw[hr,yD,CW];by_cases h:i<n*7
 ·rw[ak (by omega)];simp only[madeCells,Array.getElem?_map,Array.getElem?_range,ak h,Option.map_some,zV,tC];have:i % 7<7:=Nat.mod_lt _ (by omega);rcases(show i % 7=0∨i % 7=1∨i % 7=2∨i % 7=3∨i % 7=4∨i % 7=5∨i % 7=6 by omega)with e|e|e|e|e|e|e<;>rw[e]<;>rfl
 ·rw[ai (by omega)];rw[zU (by rw[size_madeCells];omega)];rfl
theorem UY:(prog.info? 101).map (fun i=>(i.zero,i.size,i.bytes))=some (some (.agg (dw nG)),7,40):=by kernel_rfl
theorem UU:(prog.info? 166).map (fun i=>(i.zero,i.size,i.bytes))=some (some (.slice none 0 0),1,24):=by kernel_rfl
theorem YF:(prog.info? 4).map (fun i=>(i.zero,i.size,i.bytes))=some (some (.bool false),1,1):=by kernel_rfl
theorem SG{o:Oper}(w:World)(hgd:o.guard=none)(x y:Operand)(ho:o.op= .makeSlice 166 x y)(n:Nat)(hx:a.eval x= .int .i64 (n:Int))(hy:a.eval y= .int .i64 (n:Int))(hn:n≤100)(h:∀w',aV w' w.heap.size (List.replicate n nG)→Below w.heap.size w w'→w'.heap.size=w.heap.size+1→wpList prog ops Q rest (a.put o.dst (.slice (some ⟨w.heap.size,0,none⟩) n n)) w'):wpList prog ops Q (o::rest) a w:=by
 obtain⟨i0,hi,hz0,hz1,hz2⟩:=info_parts UY;have hrun:=run_make (P:=prog) w 166 101 i0 _ underlying166 hi hz0 .i64 .i64 (n:Int) (n:Int) (by omega) (by omega) (by rw[hz2];omega) (by omega);refine oq hgd fun K hK=>?_;have R:=hK _ _ (h (w.alloc (.cells (BP (List.replicate n nG)) 101)) (bV _ _) ((dU _ _).alloc (bN _) _) (by simp));rw[show((n:Int)).toNat=n by omega,hz1,show(Value.agg (dw nG)).cells=dw nG from rfl,Rc]at hrun;unfold Oper.wp;simp[execOp,ho,hx,hy,hrun,Result.andThen,Oper.upon_value];exact R
theorem IX{o:Oper}(w:World)(hgd:o.guard=none)(t e:TypeId)(z:Value)(b:Nat)(hu:prog.underlying t=some (.slice e))(ae1:(prog.info? e).map (fun i=>(i.zero,i.size,i.bytes))=some (some z,1,b))(hb:b≤1000)(hzc:z.cells= #[z])(x y:Operand)(ho:o.op= .makeSlice t x y)(n:Nat)(hx:a.eval x= .int .i64 (n:Int))(hy:a.eval y= .int .i64 (n:Int))(hn:n≤100)(h:∀w',w'.heap[w.heap.size]? =some (.cells (List.replicate n z).toArray e (0,0))→Below w.heap.size w w'→w'.heap.size=w.heap.size+1→wpList prog ops Q rest (a.put o.dst (.slice (some ⟨w.heap.size,0,none⟩) n n)) w'):wpList prog ops Q (o::rest) a w:=by
 obtain⟨i0,hi,hz0,hz1,hz2⟩:=info_parts ae1;have hbn:b*n≤1000*100:=Nat.mul_le_mul hb hn;have hrun:=run_make (P:=prog) w t e i0 z hu hi hz0 .i64 .i64 (n:Int) (n:Int) (by omega) (by omega) (by rw[hz2];have:((b*n:Nat):Int)≤100000:=(by omega);rw[Int.natCast_mul]at this;omega) (by omega);have hm:madeCells #[z] n=(List.replicate n z).toArray:=by
  apply Array.ext_getElem?;intro i;by_cases h:i<n
  ·simp[madeCells,h,Nat.mod_one]
  ·rw[zU (by rw[size_madeCells];omega),zU (by simp;omega)]
 refine oq hgd fun K hK=>?_;have R:=hK _ _ (h (w.alloc (.cells (List.replicate n z).toArray e)) (bV _ _) ((dU _ _).alloc (bN _) _) (by simp));rw[show((n:Int)).toNat=n by omega,hz1,hzc,Nat.mul_one,hm]at hrun;unfold Oper.wp;simp[execOp,ho,hx,hy,hrun,Result.andThen,Oper.upon_value];simpa using R
theorem Kc(ah:Nat)(w:World)(hc:ah≤100):Calls prog 228 #[.int .i64 (ah:Int)] w fun e w'=>∃g,e= .returned (.slice (some ⟨g,0,none⟩) ah ah)∧w.heap.size≤g∧g<w'.heap.size∧aV w' g (iY ah)∧Below w.heap.size w w':=by go_enter func228,ntmps228;go_wp2_with (first|(refine SG _ rfl (.tmp 4) (.tmp 4) rfl ah rfl rfl hc ?_;intro w1 h1 b1 z1)|(go_at_call 168;refine(nY w.heap.size 0 0 ah _ _ _ rfl h1 (by simp) (by simp;omega)).mono ?_;rintro e w2 ⟨rfl,h2,c2⟩));go_ret;rw[IV _ _ (by simp)]at h2;exact⟨w.heap.size,rfl,bN _,h2.lt,h2,b1.trans (c2.below (by omega) (fun k hk e=>by omega))⟩
theorem KG(ah n k g:Nat)(gs:List Nat)(hk:gs.length=k)(hlt:k<n):(OP ah gs++List.replicate (n-k) (Value.slice none 0 0)).set k (.slice (some ⟨g,0,none⟩) ah ah)=OP ah (gs++[g])++List.replicate (n-(k+1)) (Value.slice none 0 0):=by rw[CX _ _ (by simp[OP];omega),show k-(OP ah gs).length=0 by simp[OP];omega,show n-k=(n-(k+1))+1 by omega,AO,fD];simp[OP,Ry]
theorem yw(n ah:Nat)(w:World)(hn:n≤100)(hc:ah≤100):Calls prog 160 #[.int .i64 (n:Int),.int .i64 (ah:Int)] w fun e w'=>∃sb gs,e= .returned (.slice (some ⟨sb,0,none⟩) n n)∧w.heap.size≤sb∧(∀g∈gs,w.heap.size≤g)∧ShAt w' sb gs ah (List.replicate n (iY ah))∧Below w.heap.size w w':=by
 go_enter func160,ntmps160;go_wp2_with (refine IX _ rfl 158 166 _ 24 underlying158 UU (by omega) rfl (.tmp 7) (.tmp 7) rfl n rfl rfl hn ?_;intro w1 h1 b1 z1);go_loopw [11] (fun i wr=>∃(k:Nat) (gs:List Nat),k≤n∧gs.length=k∧i= .int .i64 k∧wr.heap[w.heap.size]? =some (.cells (OP ah gs++List.replicate (n-k) (Value.slice none 0 0)).toArray 166 (0,0))∧(∀g∈gs,w.heap.size<g∧aV wr g (iY ah))∧gs.Nodup∧Below w.heap.size w wr) (fun i _=>n-(intOf i).toNat)
 case atStart=>exact⟨0,[],dx _,rfl,rfl,by simpa[OP]using h1,by simp,by simp,b1⟩
 case round=>
  obtain⟨k,gs,hk,Zk,rfl,hb,hrows,hnd,hbel⟩:=hrel;by_cases hlt:k<n
  ·have ik:(k:Int)<(n:Int):=by omega
   have HB:Hid _:=hb;have HW:Hid _:=hrows;have HN:Hid _:=hnd;have HL:Hid _:=hbel;have hsz:=hbel.size;have hslt:w.heap.size<wr.heap.size:=by
    by_cases hl:w.heap.size<wr.heap.size
    ·exact hl
    ·rw[zU (by omega)]at hb;cases hb
   clear hb hrows hnd hbel h1 b1;go_wp2_with (first|(go_at_call 228;refine(Kc ah _ hc).mono ?_;rintro e w2 ⟨g,rfl,hg1,hg2,hgr,b2⟩)|(refine v_ _ rfl 166 (by kernel_rfl) (.tmp 18) (.tmp 17) rfl w.heap.size k (OP ah gs++List.replicate (n-k) (Value.slice none 0 0)) _ (.slice (some ⟨g,0,none⟩) ah ah) (by simp[OP];omega) rfl rfl rfl rfl (KG ah n k g gs Zk hlt) 166 ((b2.block _ hslt).trans HB.o) ?_));intro u3 h3 c3 z3;have r3:∀g'∈gs++[g],w.heap.size<g'∧aV u3 g' (iY ah):=fun g' hg'=>by
    rcases nM.1 hg' with h|h
    ·have:=HW.o g' h;exact⟨this.1,this.2.kept ((c3.block g' (fJ this.2.lt b2.size) (by omega)).trans (b2.block g' this.2.lt))⟩
    ·rw[jg]at h;subst h;exact⟨by omega,hgr.kept (c3.block _ hg2 (by omega))⟩
   have n3:(gs++[g]).Nodup:=List.nodup_append.2 ⟨HN.o,by simp,fun a ha b hb=>by rw[jg]at hb;subst hb;have:=(HW.o a ha).2.lt;omega⟩;have l3:Below w.heap.size w u3:=(HL.o.trans ⟨b2.os,b2.tape,b2.output,b2.size,fun k hk=>b2.block k (by omega)⟩).trans (c3.below (by have:=b2.size;omega) (fun k hk e=>by omega));clear HB HW HN HL b2 c3 hgr;go_wp2_with fail;go_roundw
   case rel=>exact⟨k+1,gs++[g],by omega,by simp[Zk],by go_num,h3,r3,n3,l3⟩
   case measure=>simp[intOf];omega
  ·have hkn:k=n:=by omega
   subst hkn;clear h1 b1;have F:ShAt wr w.heap.size gs ah (List.replicate k (iY ah)):=by
    refine⟨by simpa using hb,by simp[Zk],fun i g r hi hr=>?_,hnd,fun hm=>?_⟩
    ·rw[CW]at hr;split at hr
     ·cases hr;exact⟨(hrows g (iH hi)).2,by simp[iY]⟩
     ·cases hr
    ·have:=(hrows _ hm).1;omega
   have G:∀g∈gs,w.heap.size≤g:=fun g hg=>Nat.le_of_lt (hrows g hg).1;have HB:Hid _:=hbel;clear hb hrows hnd hbel;go_wp2_with fail;go_ret;exact⟨w.heap.size,gs,rfl,bN _,G,F,HB.o⟩
structure Lay where
 tb:Nat
 sb0:Nat
 sb1:Nat
 gb:Nat
 gs0:List Nat
 gs1:List Nat
structure Lay.Sep (L:Lay):Prop where
 t0:L.tb≠L.sb0
 t1:L.tb≠L.sb1
 tg:L.tb≠L.gb
 s01:L.sb0≠L.sb1
 s0g:L.sb0≠L.gb
 s1g:L.sb1≠L.gb
 tx:L.tb∉L.gs0
 ty:L.tb∉L.gs1
 gx:L.gb∉L.gs0
 gy:L.gb∉L.gs1
 s0y:L.sb0∉L.gs1
 s1x:L.sb1∉L.gs0
 xy:∀g∈L.gs0,g∉L.gs1
def Lay.own (L:Lay) (k:Nat):Prop:=k=L.tb∨k=L.sb0∨k=L.sb1∨k=L.gb∨k∈L.gs0∨k∈L.gs1
def Lay.sb (L:Lay) (s:TS):Nat:=if s.shown=0 then L.sb0 else L.sb1
def Lay.gs (L:Lay) (s:TS):List Nat:=if s.shown=0 then L.gs0 else L.gs1
def mg (L:Lay) (s:TS):List Value:=
 [.slice (some ⟨L.sb0,0,none⟩) s.rows s.rows,
  .int .i64 s.v0.row,.int .i64 s.v0.col,.bool s.v0.waits,.bool s.v0.pen.b,.bool s.v0.pen.u,.bool s.v0.pen.t,.int .i64 s.v0.pen.f,.int .i64 s.v0.pen.k,.int .i64 s.v0.first,.int .i64 s.v0.second,.int .i64 s.v0.use,.bool s.v0.origin,
  .slice (some ⟨L.sb1,0,none⟩) s.rows s.rows,
  .int .i64 s.v1.row,.int .i64 s.v1.col,.bool s.v1.waits,.bool s.v1.pen.b,.bool s.v1.pen.u,.bool s.v1.pen.t,.int .i64 s.v1.pen.f,.int .i64 s.v1.pen.k,.int .i64 s.v1.first,.int .i64 s.v1.second,.int .i64 s.v1.use,.bool s.v1.origin,
  .int .i64 s.row,.int .i64 s.col,.bool s.waits,.bool s.pen.b,.bool s.pen.u,.bool s.pen.t,.int .i64 s.pen.f,.int .i64 s.pen.k,.int .i64 s.first,.int .i64 s.second,.int .i64 s.use,.bool s.origin,
  .int .i64 s.top,.int .i64 s.bottom,.bool s.wrap,.bool s.insert,.int .i64 s.shown,.slice (some ⟨L.gb,0,none⟩) s.ah s.ah]
structure TS.Inv (s:TS):Prop where
 r1:1≤s.rows
 r2:s.rows≤12
 c1:1≤s.ah
 c2:s.ah≤40
 row0:0≤s.row
 jK:s.row<(s.rows:Int)
 jA:0≤s.col
 jD:s.col<(s.ah:Int)
 iO:0≤s.top
 tb:s.top≤s.bottom
 bot:s.bottom<(s.rows:Int)
 sh:s.shown=0∨s.shown=1
 l0:s.s0.length=s.rows
 l1:s.s1.length=s.rows
 lt:s.tabs.length=s.ah
 Y4:0≤s.v0.row∧s.v0.row<(s.rows:Int)
 Y3:0≤s.v0.col∧s.v0.col<(s.ah:Int)
 Y6:0≤s.v1.row∧s.v1.row<(s.rows:Int)
 Y5:0≤s.v1.col∧s.v1.col<(s.ah:Int)
structure cO (w:World) (L:Lay) (s:TS):Prop where
 blk:w.heap[L.tb]? =some (.cells (mg L s).toArray 164 (0,0))
 h0:ShAt w L.sb0 L.gs0 s.ah s.s0
 h1:ShAt w L.sb1 L.gs1 s.ah s.s1
 tab:w.heap[L.gb]? =some (.cells (s.tabs.map Value.bool).toArray 4 (0,0))
 sep:L.Sep
theorem cO.c{L:Lay}{s:TS}(h:cO w L s)(j:Nat)(v:Value)(hv:(mg L s)[j]? =some v):w.cell? ⟨L.tb,j,none⟩=some v:=by rw[bG _ _ _ _ _ _ h.blk];simpa using hv
theorem cO.f{L:Lay}{s:TS}(h:cO w L s)(j:Nat):w.frozen? ⟨L.tb,j,none⟩=false:=oh _ _ _ _ _ h.blk
theorem aK{g:Nat}{o:Obj}(h:w.heap[g]? =some o):g<w.heap.size:=(wK.1 h).1
theorem cO.lt{w:World}{L:Lay}{s:TS}(h:cO w L s):L.tb<w.heap.size:=aK h.blk
theorem cO.pQ{L:Lay}{s:TS}(h:cO w L s)(hk:L.own k):k<w.heap.size:=by
 rcases hk with rfl|rfl|rfl|rfl|hk|hk
 ·exact h.lt
 ·exact h.h0.lt
 ·exact h.h1.lt
 ·exact aK h.tab
 ·exact h.h0.glt hk
 ·exact h.h1.glt hk
theorem cO.kept{w w':World}{L:Lay}{s:TS}(h:cO w L s){P:Nat→Prop}(c:Ch P w w')(hp:∀k,L.own k→¬P k):cO w' L s:=
 ⟨(c.block _ h.lt (hp _ (.inl rfl))).trans h.blk,h.h0.kept c (hp _ (.inr (.inl rfl))) (fun g hg=>hp g (.inr (.inr (.inr (.inr (.inl hg)))))),
  h.h1.kept c (hp _ (.inr (.inr (.inl rfl)))) (fun g hg=>hp g (.inr (.inr (.inr (.inr (.inr hg)))))),(c.block _ (aK h.tab) (hp _ (.inr (.inr (.inr (.inl rfl)))))).trans h.tab,h.sep⟩
abbrev Sm (w w':World):Prop:=Ch (fun _=>False) w w'
theorem cO.sm{L:Lay}{s:TS}(h:cO w L s)(c:Sm w w'):cO w' L s:=h.kept c (fun _ _ h=>h)
theorem Sm.ch{P:Nat→Prop}(c:Sm w w'):Ch P w w':=c.mono (fun _ _ h=>h.elim)
theorem cO.put{L:Lay}{s s':TS}(h:cO w L s)(hb:w'.heap[L.tb]? =some (.cells (mg L s').toArray 164 (0,0)))(c:Ch (· =L.tb) w w')(hc:s'.ah=s.ah)(h0:s'.s0=s.s0)(h1:s'.s1=s.s1)(ht:s'.tabs=s.tabs):cO w' L s':=
 ⟨hb,by rw[hc,h0];exact h.h0.kept c (fun e=>h.sep.t0 e.symm) (fun g hg e=>h.sep.tx (e▸hg)),by rw[hc,h1];exact h.h1.kept c (fun e=>h.sep.t1 e.symm) (fun g hg e=>h.sep.ty (e▸hg)),
  by rw[ht];exact(c.block _ (aK h.tab) (fun e=>h.sep.tg e.symm)).trans h.tab,h.sep⟩
theorem cO.set{L:Lay}{s s':TS}(h:cO w L s)(j:Nat)(v:Value)(hj:(mg L s).set j v=mg L s')(hc:s'.ah=s.ah)(h0:s'.s0=s.s0)(h1:s'.s1=s.s1)(ht:s'.tabs=s.tabs):cO (w.setCell ⟨L.tb,j,none⟩ v) L s':=by refine h.put ?_ ((Ch.refl _ _).set _ _ _ (fun _=>rfl)) hc h0 h1 ht;rw[rR w L.tb j _ 164 _ h.blk, ←hj];simp
theorem Ch.nJ{u:World}{L:Lay}(h:Ch L.own w u)(j:Nat)(v:Value):Ch L.own w (u.setCell ⟨L.tb,j,none⟩ v):=h.set _ _ _ (fun _=>.inl rfl)
theorem cO.cur{L:Lay}{s:TS}(h:cO w L s):ShAt w (L.sb s) (L.gs s) s.ah s.cur:=by
 unfold Lay.sb Lay.gs TS.cur;split
 ·exact h.h0
 ·exact h.h1
theorem Lay.qM{L:Lay}{s:TS}(h:k∈L.gs s):L.own k:=by
 unfold Lay.gs at h;split at h
 ·exact .inr (.inr (.inr (.inr (.inl h))))
 ·exact .inr (.inr (.inr (.inr (.inr h))))
theorem TS.Inv.ql{s:TS}(h:s.Inv):s.cur.length=s.rows:=by
 unfold TS.cur;split
 ·exact h.l0
 ·exact h.l1
theorem cO.setCur{L:Lay}{s:TS}(h:cO w L s)(c:Ch (· ∈L.gs s) w w')(hS:ShAt w' (L.sb s) (L.gs s) s.ah S):cO w' L (s.setCur S):=by
 unfold Lay.sb Lay.gs at*;unfold TS.setCur;by_cases hs:s.shown=0
 ·simp only[ak hs]at c hS ⊢;refine⟨(c.block _ h.lt h.sep.tx).trans ?_,hS,h.h1.kept c h.sep.s1x (fun g hg e=>h.sep.xy g e hg),(c.block _ (aK h.tab) h.sep.gx).trans h.tab,h.sep⟩;exact h.blk
 ·simp only[ai hs]at c hS ⊢;refine⟨(c.block _ h.lt h.sep.ty).trans ?_,h.h0.kept c h.sep.s0y (fun g hg e=>h.sep.xy g hg e),hS,(c.block _ (aK h.tab) h.sep.gy).trans h.tab,h.sep⟩;exact h.blk
theorem TS.Aj(s:TS)(S:bS):(s.setCur S).rows=s.rows∧(s.setCur S).ah=s.ah∧(s.setCur S).shown=s.shown∧(s.setCur S).row=s.row∧(s.setCur S).col=s.col∧(s.setCur S).top=s.top∧(s.setCur S).bottom=s.bottom∧(s.setCur S).v0=s.v0∧(s.setCur S).v1=s.v1∧(s.setCur S).tabs=s.tabs∧(s.setCur S).cur=S:=by unfold TS.setCur TS.cur;by_cases hs:s.shown=0<;>simp[hs]
theorem TS.Inv.setCur{s:TS}(h:s.Inv)(hl:S.length=s.rows):(s.setCur S).Inv:=by
 unfold TS.setCur;split
 ·exact⟨h.r1,h.r2,h.c1,h.c2,h.row0,h.jK,h.jA,h.jD,h.iO,h.tb,h.bot,h.sh,hl,h.l1,h.lt,h.Y4,h.Y3,h.Y6,h.Y5⟩
 ·exact⟨h.r1,h.r2,h.c1,h.c2,h.row0,h.jK,h.jA,h.jD,h.iO,h.tb,h.bot,h.sh,h.l0,hl,h.lt,h.Y4,h.Y3,h.Y6,h.Y5⟩
theorem cO.drewN{L:Lay}{s:TS}(h:cO w L s)(n:Nat):cO (w.drewN n) L s:=h.sm ((Ch.refl _ _).drewN n)
theorem rA(L:Lay)(s:TS)(w:World)(ht:cO w L s)(hi:s.Inv):Calls prog 154 #[.pointer (some ⟨L.tb,0,none⟩)] w fun e w'=>e= .returned (.int .i64 ((s.rows:Int)-1))∧w'=w:=by have c0:=ht.c 0 _ rfl;have h1:=hi.r1;have h2:=hi.r2;have v1:IntKind.i64.wrap ((s.rows:Int)-1)=(s.rows:Int)-1:=bD _ (by omega);clear ht hi;go_enter func154,ntmps154;go_wp2_with fail;go_ret;exact⟨rfl,rfl⟩
theorem pE(L:Lay)(s:TS)(w:World)(ht:cO w L s)(hi:s.Inv):Calls prog 105 #[.pointer (some ⟨L.tb,0,none⟩)] w fun e w'=>e= .returned (.int .i64 ((s.ah:Int)-1))∧w'=w:=by have c0:=ht.c 43 _ rfl;have h1:=hi.c1;have h2:=hi.c2;have v1:IntKind.i64.wrap ((s.ah:Int)-1)=(s.ah:Int)-1:=bD _ (by omega);clear ht hi;go_enter func105,ntmps105;go_wp2_with fail;go_ret;exact⟨rfl,rfl⟩
theorem rX(n lo hi:Int)(w:World):Calls prog 171 #[.int .i64 n,.int .i64 lo,.int .i64 hi] w fun e w'=>e= .returned (.int .i64 (TS.bg n lo hi))∧w'=w:=by
 generalize hX:TS.bg n lo hi=X;have HX:Hid _:=hX;clear hX;go_enter func171,ntmps171;go_wp2_with fail
 all_goals go_ret
 all_goals refine⟨?_,rfl⟩
 all_goals rw[←HX.o];unfold TS.bg
 all_goals refine congrArg (fun z=>Ending.returned (Value.int .i64 z)) ?_
 all_goals omega
theorem iA(n:Int)(w:World):Calls prog 179 #[.int .i64 n] w fun e w'=>e= .returned (.int .i64 (TS.times n))∧w'=w:=by
 generalize hX:TS.times n=X;have HX:Hid _:=hX;clear hX;go_enter func179,ntmps179;go_wp2_with fail
 all_goals go_ret
 all_goals refine⟨?_,rfl⟩
 all_goals rw[←HX.o];unfold TS.times
 all_goals refine congrArg (fun z=>Ending.returned (Value.int .i64 z)) ?_
 all_goals omega
theorem fQ(n:Int)(w:World):Calls prog 183 #[.int .i64 n] w fun e w'=>e= .returned (.int .i64 (TS.amount n))∧w'=w:=by
 generalize hX:TS.amount n=X;have HX:Hid _:=hX;clear hX;go_enter func183,ntmps183;go_wp2_with fail
 all_goals go_ret
 all_goals refine⟨?_,rfl⟩
 all_goals rw[←HX.o];unfold TS.amount
 all_goals refine congrArg (fun z=>Ending.returned (Value.int .i64 z)) ?_
 all_goals omega
theorem qy(L:Lay)(s:TS)(w:World)(ht:cO w L s)(hi:s.Inv):Calls prog 166 #[.pointer (some ⟨L.tb,0,none⟩)] w fun e w'=>e= .returned (.pointer (some ⟨L.tb,if s.shown=0 then 0 else 13,none⟩))∧∃m,w'=w.drewN m:=by
 have c0:=ht.c 42 _ rfl;rcases hi.sh with h|h
 ·rw[ak h];rw[h]at c0;clear ht hi;go_enter func166,ntmps166;go_wp2_with fail;go_quiet (fail);go_wp2_with fail;go_ret;exact⟨rfl,_,rfl⟩
 ·rw[ai (by omega)];rw[h]at c0;clear ht hi;go_enter func166,ntmps166;go_wp2_with fail;go_quiet (fail);go_wp2_with fail;go_ret;exact⟨rfl,_,rfl⟩
theorem cO.CG{L:Lay}{s:TS}(ht:cO w L s)(hi:s.Inv):∃g,(L.gs s)[s.row.toNat]? =some g∧aV w g s.aP∧s.aP.length=s.ah:=by obtain⟨g,h1,_,h3,h4⟩:=ht.cur.get (i:=s.row.toNat) (by rw[hi.ql];have:=hi.row0;have:=hi.jK;omega);exact⟨g,h1,h3,h4⟩
theorem oW(L:Lay)(s:TS)(w:World)(ht:cO w L s)(hi:s.Inv)(g:Nat)(hg:(L.gs s)[s.row.toNat]? =some g):Calls prog 100 #[.pointer (some ⟨L.tb,0,none⟩)] w fun e w'=>e= .returned (.slice (some ⟨g,0,none⟩) s.ah s.ah)∧∃m,w'=w.drewN m:=by
 have c26:=ht.c 26 _ rfl;have hcell:=ht.cur.slice hg;have hsh:∀n,_:=fun n=>qy L s (w.drewN n) (ht.drewN n) hi;have hr0:=hi.row0;have hr1:=hi.jK;obtain⟨q,hq⟩:∃q:Nat,s.row=(q:Int):=⟨s.row.toNat,by omega⟩;rw[hq]at c26 hr1;rw[hq]at hcell hg;simp only[lF]at hcell hg;unfold Lay.sb at hcell;have hq1:q<s.rows:=by omega
 rcases hi.sh with h|h
 ·have c0:=ht.c 0 _ rfl;rw[ak h]at hcell;simp only[ak h]at hsh;clear ht hi hr0 h hq hg;go_enter func100,ntmps100;go_wp2_with fail;go_quiet ((go_at_call 166;exact Calls.quiet_of (hsh _)));go_wp2_with fail;go_ret;exact⟨rfl,_,rfl⟩
 ·have c0:=ht.c 13 _ rfl;rw[ai (by omega)]at hcell;simp only[ai (show¬s.shown=0 by omega)]at hsh;clear ht hi hr0 h hq hg;go_enter func100,ntmps100;go_wp2_with fail;go_quiet ((go_at_call 166;exact Calls.quiet_of (hsh _)));go_wp2_with fail;go_ret;exact⟨rfl,_,rfl⟩
theorem iN(L:Lay)(s:TS)(w:World)(ht:cO w L s)(hi:s.Inv)(c:Int):Calls prog 104 #[.pointer (some ⟨L.tb,0,none⟩),.int .i64 c] w fun e w'=>e= .returned (.tuple #[])∧cO w' L (s.bQ c)∧Ch L.own w w':=by have c27:=ht.c 27 _ rfl;have f27:=ht.f 27;have l1:=pE L s w ht hi;have HT:Hid _:=ht;clear ht;go_enter func104,ntmps104;go_wp2_with (first|(go_at_call 105;refine l1.mono ?_;rintro e w1 ⟨rfl,rfl⟩)|(go_at_call 171;refine(rX c 0 ((s.ah:Int)-1) _).mono ?_;rintro e w1 ⟨rfl,rfl⟩));go_end0;exact⟨rfl,HT.o.set 27 _ rfl rfl rfl rfl rfl,(Ch.refl _ _).nJ _ _⟩
theorem zQ(L:Lay)(s:TS)(w:World)(ht:cO w L s)(hi:s.Inv)(c:Int):Calls prog 174 #[.pointer (some ⟨L.tb,0,none⟩),.int .i64 c] w fun e w'=>e= .returned (.tuple #[])∧cO w' L (s.nD c)∧Ch L.own w w':=by have c26:=ht.c 26 _ rfl;have f26:=ht.f 26;have l1:=rA L s w ht hi;have HT:Hid _:=ht;clear ht;go_enter func174,ntmps174;go_wp2_with (first|(go_at_call 154;refine l1.mono ?_;rintro e w1 ⟨rfl,rfl⟩)|(go_at_call 171;refine(rX c 0 ((s.rows:Int)-1) _).mono ?_;rintro e w1 ⟨rfl,rfl⟩));go_end0;exact⟨rfl,HT.o.set 26 _ rfl rfl rfl rfl rfl,(Ch.refl _ _).nJ _ _⟩
theorem tZ(L:Lay)(s:TS)(w:World)(ht:cO w L s)(hi:s.Inv):Calls prog 172 #[.pointer (some ⟨L.tb,0,none⟩)] w fun e w'=>e= .returned (.slice (some ⟨L.sb s,s.top.toNat,none⟩) s.height (s.rows-s.top.toNat))∧∃m,w'=w.drewN m:=by
 have c38:=ht.c 38 _ rfl;have c39:=ht.c 39 _ rfl;have hsh:∀n,_:=fun n=>qy L s (w.drewN n) (ht.drewN n) hi;obtain⟨p,hp⟩:∃p:Nat,s.top=(p:Int):=⟨s.top.toNat,by have:=hi.iO;have:=hi.row0;omega⟩;obtain⟨b,hb⟩:∃b:Nat,s.bottom=(b:Int):=⟨s.bottom.toNat,by have:=hi.iO;have:=hi.tb;omega⟩;have hpb:p≤b:=by have:=hi.tb;omega
 have hbr:b<s.rows:=by have:=hi.bot;omega
 have hr2:=hi.r2;have hh:s.height=b+1-p:=by unfold TS.height;omega
 rw[hp]at c38;rw[hb]at c39;rw[hh,hp,lF];have i1:s.rows≠p:=by omega
 have i2:(p:Int)≤(b:Int)+1:=by omega
 have i3:(b:Int)+1≤(s.rows:Int):=by omega
 have v1:IntKind.i64.wrap ((b:Int)+1)=(b:Int)+1:=bD _ (by omega);have t1:((b:Int)+1).toNat=b+1:=by omega
 have j1:(0:Int)≤(b:Int)+1:=by omega
 unfold Lay.sb;rcases hi.sh with h|h
 ·have c0:=ht.c 0 _ rfl;rw[ak h];simp only[ak h]at hsh;clear ht hi h hp hb hh;go_enter func172,ntmps172;go_wp2_with fail;go_quiet ((go_at_call 166;exact Calls.quiet_of (hsh _)));go_wp2_with fail;go_ret;exact⟨rfl,_,rfl⟩
 ·have c0:=ht.c 13 _ rfl;rw[ai (show¬s.shown=0 by omega)];simp only[ai (show¬s.shown=0 by omega)]at hsh;clear ht hi h hp hb hh;go_enter func172,ntmps172;go_wp2_with fail;go_quiet ((go_at_call 166;exact Calls.quiet_of (hsh _)));go_wp2_with fail;go_ret;exact⟨rfl,_,rfl⟩
theorem yP(L:Lay)(s:TS)(w:World)(ht:cO w L s)(hi:s.Inv)(hin:s.row≤s.bottom):Calls prog 189 #[.pointer (some ⟨L.tb,0,none⟩)] w fun e w'=>e= .returned (.slice (some ⟨L.sb s,s.row.toNat,none⟩) s.below (s.rows-s.row.toNat))∧∃m,w'=w.drewN m:=by
 have c26:=ht.c 26 _ rfl;have c39:=ht.c 39 _ rfl;have hsh:∀n,_:=fun n=>qy L s (w.drewN n) (ht.drewN n) hi;obtain⟨p,hp⟩:∃p:Nat,s.row=(p:Int):=⟨s.row.toNat,by have:=hi.iO;have:=hi.row0;omega⟩;obtain⟨b,hb⟩:∃b:Nat,s.bottom=(b:Int):=⟨s.bottom.toNat,by have:=hi.iO;have:=hi.tb;omega⟩;have hpb:p≤b:=by have:=hi.tb;omega
 have hbr:b<s.rows:=by have:=hi.bot;omega
 have hr2:=hi.r2;have hh:s.below=b+1-p:=by unfold TS.below;omega
 rw[hp]at c26;rw[hb]at c39;rw[hh,hp,lF];have i1:s.rows≠p:=by omega
 have i2:(p:Int)≤(b:Int)+1:=by omega
 have i3:(b:Int)+1≤(s.rows:Int):=by omega
 have v1:IntKind.i64.wrap ((b:Int)+1)=(b:Int)+1:=bD _ (by omega);have t1:((b:Int)+1).toNat=b+1:=by omega
 have j1:(0:Int)≤(b:Int)+1:=by omega
 unfold Lay.sb;rcases hi.sh with h|h
 ·have c0:=ht.c 0 _ rfl;rw[ak h];simp only[ak h]at hsh;clear ht hi h hp hb hh;go_enter func189,ntmps189;go_wp2_with fail;go_quiet ((go_at_call 166;exact Calls.quiet_of (hsh _)));go_wp2_with fail;go_ret;exact⟨rfl,_,rfl⟩
 ·have c0:=ht.c 13 _ rfl;rw[ai (show¬s.shown=0 by omega)];simp only[ai (show¬s.shown=0 by omega)]at hsh;clear ht hi h hp hb hh;go_enter func189,ntmps189;go_wp2_with fail;go_quiet ((go_at_call 166;exact Calls.quiet_of (hsh _)));go_wp2_with fail;go_ret;exact⟨rfl,_,rfl⟩
theorem Rv(L:Lay)(s:TS)(w:World)(ht:cO w L s)(hi:s.Inv)(n:Int)(hn:0≤n∧n≤70000):Calls prog 180 #[.pointer (some ⟨L.tb,0,none⟩),.int .i64 n] w fun e w'=>e= .returned (.tuple #[])∧cO w' L (s.rise n)∧Ch L.own w w':=by
 have c26:=ht.c 26 _ rfl;have c38:=ht.c 38 _ rfl;have f26:=ht.f 26;have hr0:=hi.row0;have hr1:=hi.jK;have hr2:=hi.r2;have v1:IntKind.i64.wrap (s.row-n)=s.row-n:=bD _ (by omega);have hX:s.rise n= {s with row:=max (s.row-n) (if s.top≤s.row then s.top else 0)}:=rfl;generalize s.rise n=X at*;have HX:Hid _:=hX;have HT:Hid _:=ht;clear ht hX hi;by_cases hq:s.top≤s.row
 ·rw[ak hq]at HX;go_enter func180,ntmps180;go_wp2_with fail;go_quiet (fail);go_wp2_with fail
  all_goals go_end0
  all_goals refine⟨rfl,?_,((Ch.refl _ _).drewN _).nJ _ _⟩
  all_goals rw[HX.o]
  all_goals refine(HT.o.drewN _).set 26 _ ?_ rfl rfl rfl rfl
  ·rw[Int.max_eq_right (by omega)];rfl
  ·rw[Int.max_eq_left (by omega)];rfl
 ·rw[ai hq]at HX;have dq:decide (s.top≤s.row)=false:=by simp[hq]
  go_enter func180,ntmps180;go_wp2_with fail;go_quiet (fail);go_wp2_with fail
  all_goals go_end0
  all_goals refine⟨rfl,?_,((Ch.refl _ _).drewN _).nJ _ _⟩
  all_goals rw[HX.o]
  all_goals refine(HT.o.drewN _).set 26 _ ?_ rfl rfl rfl rfl
  ·rw[Int.max_eq_right (by omega)];rfl
  ·rw[Int.max_eq_left (by omega)];rfl
end Go.Proofs.YtheibfffilomcaaGreatDoor
