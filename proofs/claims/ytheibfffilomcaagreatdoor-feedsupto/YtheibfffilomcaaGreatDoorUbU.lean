import Derived.Test.YtheibfffilomcaaGreatDoorTmaU
import Derived.Test.YtheibfffilomcaaGreatDoorXdU
import Derived.Test.YtheibfffilomcaaGreatDoorGaU
import Derived.Lib.Builder
import Derived.Lib.AppendStr
import Derived.Lib.UnsafeStr
import Derived.Test.YtheibfffilomcaaGreatDoorEqcU
import Derived.BigQuiet
import Derived.Deep.QuietTactic
set_option linter.all false
set_option maxRecDepth 100000
namespace Go.Proofs.YtheibfffilomcaaGreatDoor
open Go.RowKit Go.Proofs.Tryz
variable {w w':World} {N:Int} {wb a b base tb k:Nat} {L:List Int} {x:WS}
theorem sI(L:Lay)(s:TS)(n i k:Nat)(hn:n<2)(hi:i<s.rows)(hk:k<s.ah)(w:World)(ht:cO w L s)(hI:s.Inv):Calls prog 81 #[.pointer (some ⟨L.tb,0,none⟩),.int .i64 (n:Int),.int .i64 (i:Int),.int .i64 (k:Int)] w fun e w'=>e= .returned (.agg (dw (s.cellAt n i k)))∧Sm w w':=by
 have hlt:=ht.lt;have ii:(i:Int)<(s.rows:Int):=by omega
 have ik:(k:Int)<(s.ah:Int):=by omega
 obtain⟨sb,off,g,c0,hcell,hsb,hrow,hget,hoff⟩:∃sb off g,w.cell? ⟨L.tb,off,none⟩=some (.slice (some ⟨sb,0,none⟩) s.rows s.rows)∧w.cell? ⟨sb,i,none⟩=some (.slice (some ⟨g,0,none⟩) s.ah s.ah)∧sb<w.heap.size∧
  aV (w.alloc (.cells (dw nG) 101)) g ((if n=0 then s.s0 else s.s1).getD i [])∧((if n=0 then s.s0 else s.s1).getD i [])[k]? =some (s.cellAt n i k)∧off=n*13:=by
  have key:∀(S:bS) (r:List aI),r.length=s.ah→r=S.getD i []→r[k]? =some ((S.getD i []).getD k aD):=fun S r hr e=>by rw[←e];simp[List.getD,eG (show k<r.length by omega)]
  rcases(show n=0∨n=1 by omega)with rfl|rfl
  ·obtain⟨g,_,h2,h3,h4⟩:=ht.h0.get (i:=i) (by rw[hI.l0];exact hi);exact⟨L.sb0,0,g,ht.c 0 _ rfl,h2,ht.h0.lt,h3.kept (gK _ _ _ h3.lt),key s.s0 _ h4 rfl,rfl⟩
  ·obtain⟨g,_,h2,h3,h4⟩:=ht.h1.get (i:=i) (by rw[hI.l1];exact hi);exact⟨L.sb1,13,g,ht.c 13 _ rfl,h2,ht.h1.lt,h3.kept (gK _ _ _ h3.lt),key s.s1 _ h4 rfl,rfl⟩
 generalize s.cellAt n i k=c at*;generalize (if n=0 then s.s0 else s.s1).getD i []=r at*;have HR:Hid (aV (w.alloc (.cells (dw nG) 101)) g r):=hrow;have HG:Hid _:=hget;clear ht hI hrow hget;rcases(show n=0∨n=1 by omega)with rfl|rfl
 ·subst hoff;go_enter func81,ntmps81;go_wp2_with (first|(refine Cj _ rfl (.tmp 20) rfl g (k*7) k r c rfl rfl HR.o HG.o ?_)|(refine bK _ rfl 101 (.tmp 8) (.tmp 21) rfl w.heap.size (cellV nG) (cellV c) rfl _ rfl rfl 101 (bV _ _) rfl g_ (jW c) ?_));intro u2 g2 k2 z2;go_wp2_with fail;exact bX (eX results81 _ _ w.heap.size (cellV c) 101 (0,0) underlying101 g_ rfl g2) rfl ⟨rfl,((Ch.refl _ _).alloc _).trans' k2 (fun k hk e=>by omega)⟩
 ·subst hoff;go_enter func81,ntmps81;go_wp2_with (first|(refine Cj _ rfl (.tmp 20) rfl g (k*7) k r c rfl rfl HR.o HG.o ?_)|(refine bK _ rfl 101 (.tmp 8) (.tmp 21) rfl w.heap.size (cellV nG) (cellV c) rfl _ rfl rfl 101 (bV _ _) rfl g_ (jW c) ?_));intro u2 g2 k2 z2;go_wp2_with fail;exact bX (eX results81 _ _ w.heap.size (cellV c) 101 (0,0) underlying101 g_ rfl g2) rfl ⟨rfl,((Ch.refl _ _).alloc _).trans' k2 (fun k hk e=>by omega)⟩
theorem XE(fb:Nat)(L:Lay)(x:akA)(n i k:Nat)(hn:n<2)(hi:i<x.t.rows)(hk:k<x.t.ah)(w:World)(h:Cm w fb L x)(hI:x.t.Inv):Calls prog 38 #[.pointer (some ⟨fb,0,none⟩),.int .i64 (n:Int),.int .i64 (i:Int),.int .i64 (k:Int)] w fun e w'=>e= .returned (.tuple #[.agg (dw (x.t.cellAt n i k)),.int .i64 0])∧Sm w w':=by have hpt:=h.pt;have hfl:=h.lt;have T:∀o,cO (w.alloc o) L x.t:=fun o=>h.te.sm ((Ch.refl _ _).alloc _);have l0:∀o,_:=fun o=>bC L (n:Int) (w.alloc o);rw[iP (show 0≤(n:Int)∧(n:Int)<2 by omega)]at l0;have l2:∀o,_:=fun o=>l8 L x.t (i:Int) (w.alloc o) (T o) hI;rw[iP (show 0≤(i:Int)∧(i:Int)<(x.t.rows:Int) by omega)]at l2;have l3:∀o,_:=fun o=>l7 L x.t (k:Int) (w.alloc o) (T o) hI;rw[iP (show 0≤(k:Int)∧(k:Int)<(x.t.ah:Int) by omega)]at l3;have l1:∀o,_:=fun o=>sI L x.t n i k hn hi hk (w.alloc o) (T o) hI;generalize x.t.cellAt n i k=c at*;clear h hI T;go_enter func38,ntmps38;go_wp2_with (first|(go_at_call 76;refine(l0 _).mono ?_;rintro e w1 ⟨rfl,hw1⟩;subst hw1)|(go_at_call 79;refine(l2 _).mono ?_;rintro e w1 ⟨rfl,hw1⟩;subst hw1)|(go_at_call 80;refine(l3 _).mono ?_;rintro e w1 ⟨rfl,hw1⟩;subst hw1)|(go_at_call 81;refine(l1 _).mono ?_;rintro e w1 ⟨rfl,s1⟩)|(refine bK _ rfl 101 (.tmp 8) (.tmp 43) rfl w.heap.size (cellV nG) (cellV c) rfl _ rfl rfl 101 ((s1.block _ (by simp) id).trans (bV _ _)) rfl g_ (jW c) ?_));intro u2 g2 k2 z2;go_wp2_with fail;exact bX (bf results38 _ _ w.heap.size (cellV c) 101 (0,0) underlying101 g_ rfl g2) rfl ⟨rfl,(((Ch.refl _ _).alloc _).trans s1).trans' k2 (fun k hk e=>by omega)⟩
theorem IK(L:Lay)(s:TS)(k:Nat)(hk:k<s.ah)(w:World)(ht:cO w L s)(hI:s.Inv):Calls prog 82 #[.pointer (some ⟨L.tb,0,none⟩),.int .i64 (k:Int)] w fun e w'=>e= .returned (.bool (s.tabs.getD k false))∧w'=w:=by
 have c43:=ht.c 43 _ rfl;have ik:(k:Int)<(s.ah:Int):=by omega
 have hcell:w.cell? ⟨L.gb,k,none⟩=some (.bool (s.tabs.getD k false)):=by
  rw[bG _ _ _ _ _ _ ht.tab];have:k<s.tabs.length:=by rw[hI.lt];exact hk
  simp[List.getD,eG this]
 generalize s.tabs.getD k false=b at*;clear ht hI;go_enter func82,ntmps82;go_wp2_with fail;go_ret;exact⟨rfl,rfl⟩
theorem acO(fb:Nat)(L:Lay)(x:akA)(k:Nat)(hk:k<x.t.ah)(w:World)(h:Cm w fb L x)(hI:x.t.Inv):Calls prog 39 #[.pointer (some ⟨fb,0,none⟩),.int .i64 (k:Int)] w fun e w'=>e= .returned (.tuple #[.bool (x.t.tabs.getD k false),.int .i64 0])∧w'=w:=by have hpt:=h.pt;have l3:=l7 L x.t (k:Int) w h.te hI;rw[iP (show 0≤(k:Int)∧(k:Int)<(x.t.ah:Int) by omega)]at l3;have l1:=IK L x.t k hk w h.te hI;generalize x.t.tabs.getD k false=b at*;clear h hI;go_enter func39,ntmps39;go_wp2_with (first|(go_at_call 80;refine l3.mono ?_;rintro e w1 ⟨rfl,hw1⟩;have hw2:=hw1.symm;subst hw2)|(go_at_call 82;refine l1.mono ?_;rintro e w1 ⟨rfl,hw1⟩;have hw2:=hw1.symm;subst hw2));go_ret2;exact⟨rfl,rfl⟩
theorem akA.Ok.fresh{rows ah:Nat}(hr:1≤rows∧rows≤12)(hc:1≤ah∧ah≤40):(akA.fresh rows ah).Ok:=⟨RS.ok.zero,MS.ok.zero,TS.Inv.fresh hr hc⟩
theorem JW(rows ah:Nat)(w:World)(hr:1≤rows∧rows≤12)(hc:1≤ah∧ah≤40):Calls prog 47 #[.int .i64 (rows:Int),.int .i64 (ah:Int)] w fun e w'=>e= .returned (.bool true)∧w'=w:=by
 have d1:(1:Int)≤(rows:Int):=by omega
 have d2:(rows:Int)≤12:=by omega
 have d3:(1:Int)≤(ah:Int):=by omega
 have d4:(ah:Int)≤40:=by omega
 go_enter func47,ntmps47;go_wp2_with fail;go_ret;exact⟨rfl,rfl⟩
theorem Jw(rows ah:Nat)(w:World)(hr:1≤rows∧rows≤12)(hc:1≤ah∧ah≤40)(hs:2<w.heap.size):Calls prog 48 #[.int .i64 (rows:Int),.int .i64 (ah:Int)] w fun e w'=>∃fb L,e= .returned (.pointer (some ⟨fb,0,none⟩))∧Cm w' fb L (akA.fresh rows ah)∧w.heap.size≤fb∧(∀k,L.own k→w.heap.size≤k)∧Below w.heap.size w w':=by
 have l1:=IJ rows ah w hr hc;go_enter func48,ntmps48;go_wp2_with (go_at_call 92;refine l1.mono ?_;rintro e w1 ⟨L,rfl,t1,o1,b1⟩);go_ret;refine⟨w1.heap.size,L,rfl,?_,b1.size,o1,b1.alloc b1.size _⟩;have hb:=bV w1 (.cells #[.int .i64 0,.int .u8 0,.int .u8 0,.int .i64 0,.int .i64 0,.int .i64 0,.int .i64 0,.int .i64 0,.int .i64 0,.int .i64 0,.int .i64 0,.int .i64 0,.int .i64 0,.int .i64 0,.int .i64 0,.int .i64 0,.int .i64 0,.int .i64 0,.int .i64 0,.int .i64 0,.int .i64 0,.int .i64 0,.int .i64 0,.pointer (some ⟨L.tb,0,none⟩)] 74);have cell:∀j v,(#[.int .i64 0,.int .u8 0,.int .u8 0,.int .i64 0,.int .i64 0,.int .i64 0,.int .i64 0,.int .i64 0,.int .i64 0,.int .i64 0,.int .i64 0,.int .i64 0,.int .i64 0,.int .i64 0,.int .i64 0,.int .i64 0,.int .i64 0,.int .i64 0,.int .i64 0,.int .i64 0,.int .i64 0,.int .i64 0,.int .i64 0,.pointer (some ⟨L.tb,0,none⟩)]:Array Value)[j]? =some v→World.cell? (w1.alloc (.cells #[.int .i64 0,.int .u8 0,.int .u8 0,.int .i64 0,.int .i64 0,.int .i64 0,.int .i64 0,.int .i64 0,.int .i64 0,.int .i64 0,.int .i64 0,.int .i64 0,.int .i64 0,.int .i64 0,.int .i64 0,.int .i64 0,.int .i64 0,.int .i64 0,.int .i64 0,.int .i64 0,.int .i64 0,.int .i64 0,.int .i64 0,.pointer (some ⟨L.tb,0,none⟩)] 74)) ⟨w1.heap.size,j,none⟩=some v:=fun j v hv=>by rw[bG _ _ _ _ _ _ hb];exact hv
 refine⟨⟨cell 0 _ rfl,cell 1 _ rfl,cell 2 _ rfl,cell 3 _ rfl,fun j _=>oh _ _ _ _ _ hb⟩,⟨rfl,fun j v hv=>?_,fun j _=>oh _ _ _ _ _ hb⟩,cell 23 _ rfl,t1.sm ((Ch.refl _ _).alloc _),fun e=>by have:=t1.pQ e;omega,fun k hk=>by have:=o1 k hk;omega⟩;have hj:j<19:=(gJ.1 hv).1;have hv0:v= .int .i64 0:=by rcases(show j=0∨j=1∨j=2∨j=3∨j=4∨j=5∨j=6∨j=7∨j=8∨j=9∨j=10∨j=11∨j=12∨j=13∨j=14∨j=15∨j=16∨j=17∨j=18 by omega)with rfl|rfl|rfl|rfl|rfl|rfl|rfl|rfl|rfl|rfl|rfl|rfl|rfl|rfl|rfl|rfl|rfl|rfl|rfl<;>exact(gz hv).symm
 subst hv0;rcases(show j=0∨j=1∨j=2∨j=3∨j=4∨j=5∨j=6∨j=7∨j=8∨j=9∨j=10∨j=11∨j=12∨j=13∨j=14∨j=15∨j=16∨j=17∨j=18 by omega)with rfl|rfl|rfl|rfl|rfl|rfl|rfl|rfl|rfl|rfl|rfl|rfl|rfl|rfl|rfl|rfl|rfl|rfl|rfl<;>exact cell _ _ rfl
theorem Vb(rows ah:Nat)(w:World)(hr:1≤rows∧rows≤12)(hc:1≤ah∧ah≤40)(hs:2<w.heap.size):Calls prog 22 #[.int .i64 (rows:Int),.int .i64 (ah:Int)] w fun e w'=>∃fb L,e= .returned (.tuple #[.pointer (some ⟨fb,0,none⟩),.int .i64 0])∧Cm w' fb L (akA.fresh rows ah)∧w.heap.size≤fb∧(∀k,L.own k→w.heap.size≤k)∧Below w.heap.size w w':=by have l0:=JW rows ah w hr hc;have l1:=Jw rows ah w hr hc hs;go_enter func22,ntmps22;go_wp2_with (first|(go_at_call 47;refine l0.mono ?_;rintro e w1 ⟨rfl,hw1⟩;have hw2:=hw1.symm;subst hw2)|(go_at_call 48;refine l1.mono ?_;rintro e w1 ⟨fb,L,rfl,h1⟩));go_ret2;exact⟨fb,L,rfl,h1⟩
def FY (tb:Nat) (p v:Value) (q:fO):List Value:=[.pointer (some ⟨tb,0,none⟩),p,v,.bool q.b,.bool q.u,.bool q.t,.int .i64 q.f,.int .i64 q.k]
def lD (w:World) (base:Nat) (v:Value) (L:List Int):Prop:=w.ownsRow base 5 1 v L.length (L.map (Value.int .u8))
def yJ (wb:Nat):Value:=.pointer (some ⟨wb,1,none⟩)
structure iK (w:World) (wb tb:Nat) (x:WS):Prop where
 ex:∃p v,w.heap[wb]? =some (.cells (FY tb p v x.pen).toArray 133 (0,0))∧(p= .pointer none∨p=yJ wb)∧lD w (wb+1) v x.tx
 Xx:∀i∈x.tx,0≤i∧i<256
theorem iK.lt{w:World}{wb tb:Nat}{x:WS}(h:iK w wb tb x):wb<w.heap.size:=by obtain⟨p,v,h,_⟩:=h.ex;exact aK h
theorem lD.keep{v:Value}(h:lD w base v L)(hb:∀k,base≤k→k<w.heap.size→w'.heap[k]? =w.heap[k]?):lD w' base v L:=by
 obtain⟨h1,h2⟩:=h;refine⟨h1,?_⟩;rcases h2 with h2|⟨g,cap,cur,hv,hg,hk,r⟩
 ·exact .inl h2
 ·exact .inr ⟨g,cap,cur,hv,hg,(hb g hg (aK hk)).trans hk,r⟩
theorem iK.keep(h:iK w wb tb x)(c:Below w.heap.size w w'):iK w' wb tb x:=by obtain⟨p,v,h1,h2,h3⟩:=h.ex;exact⟨⟨p,v,(c.block _ (aK h1)).trans h1,h2,h3.keep (fun k _ hk=>c.block k hk)⟩,h.Xx⟩
structure Wk (wb:Nat) (w w':World):Prop where
 b:Below wb w w'
 n:∀k,k<w.heap.size→k≠wb→(∀cs fr,w.heap[k]? ≠some (.cells cs 5 fr))→w'.heap[k]? =w.heap[k]?
theorem Wk.trans{u v:World}(h:Wk wb w u)(k:Wk wb u v):Wk wb w v:=
 ⟨h.b.trans k.b,fun i hi hn hb=>by
   have e:=h.n i hi hn hb
   exact(k.n i (fJ hi h.b.size) hn (fun cs fr=>by rw[e];exact hb cs fr)).trans e⟩
theorem Wk.of_below(h:Below w.heap.size w w')(hl:wb≤w.heap.size):Wk wb w w':=⟨h.mono hl,fun k hk _ _=>h.block k hk⟩
theorem Wk.refl(wb:Nat)(w:World):Wk wb w w:=⟨dU _ _,fun _ _ _ _=>rfl⟩
theorem Wk.at(h:Wk wb w w'){cs:Array Value}{t:TypeId}{fr:Nat × Nat}(hk:w.heap[k]? =some (.cells cs t fr))(hn:k≠wb)(ht:t≠5):w'.heap[k]? =some (.cells cs t fr):=
 (h.n k (aK hk) hn (fun cs' fr' e=>by rw[hk]at e;injection e with e;injection e with _ e2 _;exact ht e2)).trans hk
theorem lD.nb{v:Value}(h:lD w base v L)(hk:v.ownBlock=some k):∃cur,w.heap[k]? =some (.cells cur 5 (0,0)):=by
 rcases h.2 with⟨rfl,_⟩|⟨g,cap,cur,rfl,_,hg,_⟩
 ·simp[Value.ownBlock]at hk
 ·simp only[Value.ownBlock,xW]at hk;subst hk;exact⟨cur,hg⟩
structure Gr (v:Value) (w w':World):Prop where
 os:w'.os=w.os
 tape:w'.tape=w.tape
 output:w'.output=w.output
 size:w.heap.size≤w'.heap.size
 block:∀k,k<w.heap.size→v.ownBlock≠some k→w'.heap[k]? =w.heap[k]?
theorem iK.of{p v:Value}(h:w.heap[wb]? =some (.cells (FY tb p v x.pen).toArray 133 (0,0)))(hp:p= .pointer none∨p=yJ wb)(hb:lD w (wb+1) v x.tx)(h8:∀i∈x.tx,0≤i∧i<256):iK w wb tb x:=⟨⟨p,v,h,hp,hb⟩,h8⟩

def I8:ByteArray:={data:=#[48,48,48,49,48,50,48,51,48,52,48,53,48,54,48,55,48,56,48,57,49,48,49,49,49,50,49,51,49,52,49,53,49,54,49,55,49,56,49,57,50,48,50,49,50,50,50,51,50,52,50,53,50,54,50,55,50,56,50,57,51,48,51,49,51,50,51,51,51,52,51,53,51,54,51,55,51,56,51,57,52,48,52,49,52,50,52,51,52,52,52,53,52,54,52,55,52,56,52,57,53,48,53,49,53,50,53,51,53,52,53,53,53,54,53,55,53,56,53,57,54,48,54,49,54,50,54,51,54,52,54,53,54,54,54,55,54,56,54,57,55,48,55,49,55,50,55,51,55,52,55,53,55,54,55,55,55,56,55,57,56,48,56,49,56,50,56,51,56,52,56,53,56,54,56,55,56,56,56,57,57,48,57,49,57,50,57,51,57,52,57,53,57,54,57,55,57,56,57,57]}



theorem r9(S:bS)(a:Nat)(r:List aI)(j:Nat):(S.set a r).getD j []=if j=a∧a<S.length then r else S.getD j []:=by
 simp only[List.getD,xX];by_cases h:a=j
 ·subst h;by_cases h2:a<S.length
  ·simp[h2]
  ·simp[h2]
 ·rw[ai h,ai (by omega)]
theorem IP(S:bS)(a n:Nat):∀i,a+i+n≤S.length→∀j,(nX S a n i).getD j []=if a≤j∧j<a+i then S.getD (j+n) []else S.getD j []:=by
 intro i;induction i with
 |zero=>intro _ j;rw[ai (by omega)];rfl
 |succ i ih=>
  intro hi j;rw[nX,r9,jO,ih (by omega),ih (by omega)];by_cases h:j=a+i
  ·subst h;rw[ak ⟨rfl,by omega⟩,ai (by omega),ak (by omega)]
  ·rw[ai (by omega)];by_cases h2:a≤j∧j<a+i
   ·rw[ak h2,ak (by omega)]
   ·rw[ai h2,ai (by omega)]
theorem lK(S:bS)(a ah:Nat):∀i,a+i≤S.length→∀j,(cK S a ah i).getD j []=if a≤j∧j<a+i then iY ah else S.getD j []:=by
 intro i;induction i with
 |zero=>intro _ j;rw[ai (by omega)];rfl
 |succ i ih=>
  intro hi j;rw[cK,r9,fB,ih (by omega)];by_cases h:j=a+i
  ·subst h;rw[ak ⟨rfl,by omega⟩,ak (by omega)]
  ·rw[ai (by omega)];by_cases h2:a≤j∧j<a+i
   ·rw[ak h2,ak (by omega)]
   ·rw[ai h2,ai (by omega)]
theorem zM{S T:bS}(hl:S.length=T.length)(h:∀j,j<S.length→S.getD j []=T.getD j []):S=T:=by apply List.ext_getElem hl;intro j h1 h2;have:=h j h1;simpa[List.getD,eG h1,eG h2]using this
abbrev DC:=aI × Int
abbrev bY:=List DC
def aM:DC:=(aD,0)
def strip (r:bY):List aI:=r.map (·.1)
theorem fG(a b:bY):strip (a++b)=strip a++strip b:=List.map_append
theorem aU(a:bY):(strip a).length=a.length:=List.length_map _
def A_ (prev:Option DC) (c:DC) (next:Option DC):Prop:=
 (c.1.part=1∧(∀x,next=some x→x.2≠c.2))∨(c.1.part=2∧(∀x,prev=some x→x.2≠c.2))
instance (prev:Option DC) (c:DC) (next:Option DC):Decidable (A_ prev c next):=by unfold A_;cases prev<;>cases next<;>simp<;>infer_instance
def nT (prev:Option DC) (c:DC) (next:Option DC):DC:=if A_ prev c next then aM else c
def mend (prev:Option DC):bY→bY
 | []=>[]
 |c::r=>nT prev c r.head?::mend (some c) r
inductive gF:bY→Prop
 |nil:gF []
 |one (c:aI) (r:bY) (hp:c.part=0) (h:gF r):gF ((c,0)::r)
 |two (c:aI) (i:Int) (r:bY) (hp:c.part=1) (h:gF r):gF ((c,i)::(jQ c,i)::r)
theorem gF.append{a b:bY}(h:gF a)(k:gF b):gF (a++b):=by
 induction h with
 |nil=>exact k
 |one c r hp _ ih=>exact .one c _ hp ih
 |two c i r hp _ ih=>exact .two c i _ hp ih
theorem gF.blank(n:Nat):gF (List.replicate n aM):=by
 induction n with
 |zero=>exact .nil
 |succ n ih=>exact .one _ _ rfl ih
def mR (prev:Option DC) (x:bY):Option DC:=(x.getLast?).or prev
theorem xB(p:Option DC)(c:DC)(x:bY):mR p (c::x)=mR (some c) x:=by
 cases x with
 |nil=>rfl
 |cons d x=>simp[mR,List.getLast?_cons_cons];cases h:(d::x).getLast?<;>simp_all
theorem Nv{c:DC}(h:c.1.part=0)(p n:Option DC):nT p c n=c:=by unfold nT;rw[ai];rintro(⟨h1,_⟩|⟨h1,_⟩)<;>omega
theorem J6{c:DC}(h:c.1.part=1)(p:Option DC)(x:DC)(hx:x.2=c.2):nT p c (some x)=c:=by
 unfold nT;rw[ai];rintro(⟨h1,h2⟩|⟨h1,_⟩)
 ·exact h2 x rfl hx
 ·omega
theorem J7{c:DC}(h:c.1.part=2)(n:Option DC)(x:DC)(hx:x.2=c.2):nT (some x) c n=c:=by
 unfold nT;rw[ai];rintro(⟨h1,h2⟩|⟨h1,h2⟩)
 ·omega
 ·exact h2 x rfl hx
theorem U9{c:DC}(h:c.1.part=1)(p n:Option DC)(hn:∀x,n=some x→x.2≠c.2):nT p c n=aM:=by unfold nT;rw[ak (.inl ⟨h,hn⟩)]
theorem U_{c:DC}(h:c.1.part=2)(p n:Option DC)(hn:∀x,p=some x→x.2≠c.2):nT p c n=aM:=by unfold nT;rw[ak (.inr ⟨h,hn⟩)]
theorem nu{a:bY}(h:gF a)(rest:bY):∀p,mend p (a++rest)=a++mend (mR p a) rest:=by
 induction h with
 |nil=>intro p;rfl
 |one c r hp _ ih=>intro p;rw[xV,mend,Nv hp,ih,xB];rfl
 |two c i r hp _ ih=>intro p;rw[xV,mend,xV,mend,ih,xB,xB];rw[List.head?_cons,J6 (c:=(c,i)) hp _ (jQ c,i) rfl,J7 (c:=(jQ c,i)) rfl _ (c,i) rfl];rfl
abbrev ze:=Option DC
def kX:ze→bY
 |none=>[]
 |some c=>[c]
def m_:ze→bY
 |none=>[]
 |some c=>[(jQ c.1,c.2)]
def iU:ze→bY
 |none=>[]
 |some _=>[aM]
def Ag (L:ze):Prop:=∀c,L=some c→c.1.part=1
theorem rz(L:ze):gF (iU L):=by
 cases L with
 |none=>exact .nil
 |some c=>exact .one _ _ rfl .nil
theorem Nh{L:ze}(h:Ag L):gF (kX L++m_ L):=by
 cases L with
 |none=>exact .nil
 |some c=>exact .two c.1 c.2 [] (h c rfl) .nil
theorem Aw{L:ze}(hL:Ag L)(p:Option DC)(rest:bY)(hr:∀c,L=some c→∀x,rest.head?=some x→x.2≠c.2):mend p (kX L++rest)=iU L++mend (mR p (kX L)) rest:=by
 cases L with
 |none=>rfl
 |some c=>show nT p c rest.head?::_=_;rw[U9 (hL c rfl) _ _ (hr c rfl)];rfl
theorem EZ{L:ze}(p:Option DC)(rest:bY)(hr:∀c,L=some c→∀x,p=some x→x.2≠c.2):mend p (m_ L++rest)=iU L++mend (mR p (m_ L)) rest:=by
 cases L with
 |none=>rfl
 |some c=>show nT p _ rest.head?::_=_;rw[U_ (c:=(jQ c.1,c.2)) rfl _ _ (hr c rfl)];rfl
theorem gF.cut{r:bY}(h:gF r):∀a,a≤r.length→∃A L B,r=A++(kX L++(m_ L++B))∧(A++kX L).length=a∧gF A∧gF B∧Ag L:=by
 induction h with
 |nil=>intro a ha;exact⟨[],none,[],rfl,by simp at ha;simp[kX,ha],.nil,.nil,fun _ h=>by cases h⟩
 |one c r hp h ih=>
  intro a ha;cases a with
  |zero=>exact⟨[],none,_,rfl,rfl,.nil,.one c r hp h,fun _ h=>by cases h⟩
  |succ a=>obtain⟨A,L,B,h1,h2,h3,h4,h5⟩:=ih a (by simpa using ha);exact⟨(c,0)::A,L,B,by rw[h1];rfl,by simpa using h2,.one c _ hp h3,h4,h5⟩
 |two c i r hp h ih=>
  intro a ha
  match a,ha with
  | 0,_=>exact⟨[],none,_,rfl,rfl,.nil,.two c i r hp h,fun _ h=>by cases h⟩
  | 1,_=>exact⟨[],some (c,i),r,rfl,rfl,.nil,h,fun _ h=>by cases h;exact hp⟩
  |a+2,ha=>obtain⟨A,L,B,h1,h2,h3,h4,h5⟩:=ih a (by simp at ha;omega);exact⟨(c,i)::(jQ c,i)::A,L,B,by rw[h1];rfl,by simpa using h2,.two c i _ hp h3,h4,h5⟩
theorem gF.at0{r:bY}(h:gF r){x:DC}(hx:r[0]? =some x):x.1.part≠2:=by
 cases h with
 |nil=>simp at hx
 |one c r hp _=>simp at hx;subst hx;simp[hp]
 |two c i r hp _=>simp at hx;subst hx;simp[hp]
theorem vX{A B:bY}{L:ze}(hB:gF B)(ha:(A++kX L).length=a):aJ (strip (A++(kX L++(m_ L++B)))) a=strip (A++(iU L++(iU L++B))):=by
 cases L with
 |none=>
  simp only[kX,m_,iU,mP,gp]at ha ⊢;apply sG;intro x hx;rw[fG,og (by rw[aU];omega),aU, ←ha,Nat.sub_self]at hx;unfold strip at hx;rw[pW]at hx;cases hB0:B[0]? with
  |none=>rw[hB0]at hx;simp at hx
  |some y=>rw[hB0]at hx;simp at hx;subst hx;exact hB.at0 hB0
 |some c=>simp only[kX,m_,iU,xV,mP,fU,fE,eP]at ha ⊢;have:=vW (strip A) c.1 (strip B);rw[aU,ha]at this;simp only[strip,List.map_append,List.map_cons];exact this
theorem gF.aeE{r:bY}(h:gF r)(hab:a<b)(hb:b≤r.length):∃A L M R B,r=A++(kX L++(m_ L++(M++(kX R++(m_ R++B)))))∧(A++kX L).length=a∧(A++(kX L++(m_ L++(M++kX R)))).length=b∧gF A∧gF M∧gF B∧Ag L∧Ag R∧
 aJ (aJ (strip r) a) b=strip (A++(iU L++(iU L++(M++(iU R++(iU R++B)))))):=by
 obtain⟨A,L,Q,rfl,h2,h3,h4,h5⟩:=h.cut a (by omega);have hl:(A++(kX L++(m_ L++Q))).length=(A++kX L).length+(m_ L).length+Q.length:=by simp only[fU];omega
 have ht:(m_ L).length≤1:=by cases L<;>simp[m_]
 obtain⟨M,R,B,rfl,k2,k3,k4,k5⟩:=h4.cut (b-(a+(m_ L).length)) (by omega);have hbb:(A++(kX L++(m_ L++(M++kX R)))).length=b:=by simp only[fU]at h2 k2 ⊢;omega
 refine⟨A,L,M,R,B,rfl,h2,hbb,h3,k3,k4,h5,k5,?_⟩;rw[vX (k3.append (by rw[←f_];exact(Nh k5).append k4)) h2]
 have:=vX (A:=A++(iU L++(iU L++M))) (B:=B) (L:=R) (a:=b) k4 (by
  have e1:(iU L).length=(kX L).length:=by cases L<;>rfl
  have e2:(iU L).length=(m_ L).length:=by cases L<;>rfl
  simp only[fU]at hbb ⊢;omega)
 simpa only[f_]using this
def hid (c:DC):List Int:=if c.1.part=1 then[c.2]else[]
def dB (r:bY):List Int:=r.flatMap hid
theorem lN(a b:bY):dB (a++b)=dB a++dB b:=List.flatMap_append
theorem kQ(n:Nat):dB (List.replicate n aM)=[]:=by
 induction n with
 |zero=>rfl
 |succ n ih=>rw[AO];show hid aM++dB _=[];rw[ih];rfl
theorem tQ{L:ze}(h:Ag L):dB (kX L)=L.toList.map (·.2):=by
 cases L with
 |none=>rfl
 |some c=>show hid c++[]=[c.2];rw[hid,ak (h c rfl)];rfl
theorem Bu(L:ze):dB (m_ L)=[]:=by
 cases L with
 |none=>rfl
 |some c=>rfl
theorem xx(L:ze):dB (iU L)=[]:=by
 cases L with
 |none=>rfl
 |some c=>rfl
structure Ao (N:Int) (r:bY):Prop where
 g:gF r
 nd:(dB r).Nodup
 bd:∀i∈dB r,1≤i∧i≤N
theorem Ao.mono{M:Int}{r:bY}(h:Ao N r)(hm:N≤M):Ao M r:=⟨h.g,h.nd,fun i hi=>by have:=h.bd i hi;omega⟩
theorem Ao.blank(N:Int)(n:Nat):Ao N (List.replicate n aM):=⟨.blank n,by rw[kQ];exact List.nodup_nil,by rw[kQ];intro i hi;cases hi⟩
theorem gF.ids{r:bY}(h:gF r):∀x∈r,x.2=0∨x.2∈dB r:=by
 induction h with
 |nil=>intro x hx;cases hx
 |one c r hp _ ih=>
  intro x hx;rcases kK.1 hx with rfl|hx
  ·exact .inl rfl
  ·rcases ih x hx with k|k
   ·exact .inl k
   ·right;show _∈hid _++dB r;exact List.mem_append_right _ k
 |two c i r hp _ ih=>
  intro x hx;have e:dB ((c,i)::(jQ c,i)::r)=i::dB r:=by show hid (c,i)++(hid (jQ c,i)++dB r)=_;rw[hid,ak hp,hid,ai (by simp[jQ])];rfl
  rw[e];rcases kK.1 hx with rfl|hx
  ·right;simp
  ·rcases kK.1 hx with rfl|hx
   ·right;simp
   ·rcases ih x hx with k|k
    ·exact .inl k
    ·right;simp[k]
def over (r:bY) (a:Nat) (q:bY):bY:=mend none (r.take a++(q++r.drop (a+q.length)))
def pushed (r:bY) (a n:Nat):bY:=mend none ((r.take a++(List.replicate (min n (r.length-a)) aM++r.drop a)).take r.length)
def tY (r:bY) (a n:Nat):bY:=mend none (r.take a++(r.drop (a+min n (r.length-a))++List.replicate (min n (r.length-a)) aM))
theorem zy{p:Option DC}{x:bY}{y:DC}(h:mR p x=some y):y∈x∨(x=[]∧p=some y):=by
 cases x with
 |nil=>exact .inr ⟨rfl,h⟩
 |cons c x=>left;unfold mR at h;rw[List.getLast?_eq_some_getLast (by simp)]at h;simp at h;subst h;exact List.getLast_mem _
theorem head_mem{x:bY}{y:DC}(h:x.head?=some y):y∈x:=by
 cases x with
 |nil=>cases h
 |cons c x=>simp at h;subst h;simp
structure Cut (N:Int) (A:bY) (L:ze) (M:bY) (R:ze) (B:bY):Prop where
 gA:gF A
 gM:gF M
 gB:gF B
 hL:Ag L
 hR:Ag R
 nd:(dB A++(L.toList.map (·.2)++(dB M++(R.toList.map (·.2)++dB B)))).Nodup
 bd:∀i∈dB A++(L.toList.map (·.2)++(dB M++(R.toList.map (·.2)++dB B))),1≤i∧i≤N
theorem Ao.cut{r:bY}(h:Ao N r)(hab:a<b)(hb:b≤r.length):∃A L M R B,Cut N A L M R B∧r=A++(kX L++(m_ L++(M++(kX R++(m_ R++B)))))∧(A++kX L).length=a∧(A++(kX L++(m_ L++(M++kX R)))).length=b∧
 aJ (aJ (strip r) a) b=strip (A++(iU L++(iU L++(M++(iU R++(iU R++B)))))):=by
 obtain⟨A,L,M,R,B,rfl,h2,h3,gA,gM,gB,hL,hR,hs⟩:=h.g.aeE hab hb;refine⟨A,L,M,R,B,⟨gA,gM,gB,hL,hR,?_,?_⟩,rfl,h2,h3,hs⟩
 ·have:=h.nd;simpa only[lN,tQ hL,tQ hR,Bu,mP]using this
 ·have:=h.bd;simpa only[lN,tQ hL,tQ hR,Bu,mP]using this
theorem Cut.Uh{A:bY}{L:ze}{M:bY}{R:ze}{B:bY}(h:Cut N A L M R B){c:DC}(e:L=some c):1≤c.2∧c.2≤N:=h.bd _ (by subst e;simp)
theorem Cut.aaP{A:bY}{L:ze}{M:bY}{R:ze}{B:bY}(h:Cut N A L M R B){c:DC}(e:R=some c):1≤c.2∧c.2≤N:=h.bd _ (by subst e;simp)
theorem DL{A:bY}{L:ze}{M:bY}{R:ze}{B:bY}(h:Cut N A L M R B)(q:bY)(hq:gF q)(hne:q≠[])(hi:∀x∈q,x.2=0∨N<x.2)(hlen:q.length=(m_ L++(M++kX R)).length):
 over (A++(kX L++(m_ L++(M++(kX R++(m_ R++B)))))) (A++kX L).length q=A++(iU L++(q++(iU R++B))):=by
 unfold over;have e1:(A++(kX L++(m_ L++(M++(kX R++(m_ R++B)))))).take (A++kX L).length=A++kX L:=by rw[←f_];exact uu
 have e2:(A++(kX L++(m_ L++(M++(kX R++(m_ R++B)))))).drop ((A++kX L).length+q.length)=m_ R++B:=by
  have:A++(kX L++(m_ L++(M++(kX R++(m_ R++B)))))=(A++kX L++(m_ L++(M++kX R)))++(m_ R++B):=by simp
  rw[this,hlen, ←fU];exact List.drop_left
 rw[e1,e2,f_,nu h.gA];obtain⟨q0,q1,rfl⟩:∃q0 q1,q=q0::q1:=by
  cases q with
  |nil=>exact absurd rfl hne
  |cons a b=>exact⟨a,b,rfl⟩
 rw[Aw h.hL _ _ (fun c hc x hx=>by
  have:=h.Uh hc;simp at hx;subst hx
  rcases hi q0 (by simp)with k|k<;>omega)]
 rw[nu hq,EZ _ _ (fun c hc x hx=>by
  have:=h.aaP hc;rcases zy hx with k|⟨k,_⟩
  ·rcases hi x k with m|m<;>omega
  ·cases k)]
 have:=nu h.gB [] (mR (mR (mR (mR none A) (kX L)) (q0::q1)) (m_ R));rw[gp]at this;rw[this];simp[mend]
theorem E_{M':Int}{A:bY}{L:ze}{M:bY}{R:ze}{B:bY}(h:Cut N A L M R B)(q:bY)(hq:gF q)(hm:N≤M')(hnd:(dB q).Nodup)(hqi:∀i∈dB q,N<i∧i≤M')(hN:0≤N):Ao M' (A++(iU L++(q++(iU R++B)))):=by
 have e:dB (A++(iU L++(q++(iU R++B))))=dB A++(dB q++dB B):=by simp only[lN,xx,mP]
 have nd:=h.nd;have bd:=h.bd;simp only[List.nodup_append,nM]at nd bd;refine⟨h.gA.append ((rz L).append (hq.append ((rz R).append h.gB))),?_,?_⟩
 ·rw[e];simp only[List.nodup_append,nM];refine⟨nd.1,⟨hnd,nd.2.1.2.1.2.1.2.1,fun a ha b hb e=>?_⟩,fun a ha b hb=>?_⟩
  ·have:=hqi a ha;have:=bd b (by simp[hb]);omega
  ·rcases hb with hb|hb
   ·intro e;have:=hqi b hb;have:=bd a (by simp[ha]);omega
   ·exact nd.2.2 a ha b (by simp[hb])
 ·rw[e];intro i hi;simp only[nM]at hi;rcases hi with k|k|k
  ·have:=bd i (by simp[k]);omega
  ·have:=hqi i k;omega
  ·have:=bd i (by simp[k]);omega
theorem ku(n:Nat):strip (List.replicate n aM)=List.replicate n aD:=by simp[strip,aM]
theorem tX(hN:0≤N){r:bY}(h:Ao N r)(hab:a<b)(hb:b≤r.length):strip (over r a (List.replicate (b-a) aM))=dP (strip r) a b∧Ao N (over r a (List.replicate (b-a) aM)):=by
 obtain⟨A,L,M,R,B,hc,rfl,ha,hb',hs⟩:=h.cut hab hb;have hlen:(List.replicate (b-a) aM).length=(m_ L++(M++kX R)).length:=by simp only[fU,kJ]at ha hb' ⊢;omega
 have hne:List.replicate (b-a) aM≠[]:=by intro e;have:=congrArg List.length e;simp at this;omega
 have e:=DL hc _ (gF.blank (b-a)) hne (fun x hx=>by rw[AJ hx];exact .inl rfl) hlen;rw[ha]at e;rw[e];refine⟨?_,E_ hc _ (gF.blank _) (Int.le_refl _) (by rw[kQ];exact List.nodup_nil) (by rw[kQ];intro i hi;cases hi) hN⟩;unfold dP jv;rw[hs];have t1:(iU L).length=(kX L).length:=by cases L<;>rfl
 have t2:(iU L).length=(m_ L).length:=by cases L<;>rfl
 have t3:(iU R).length=(kX R).length:=by cases R<;>rfl
 have e1:(strip (A++(iU L++(iU L++(M++(iU R++(iU R++B))))))).take a=strip (A++iU L):=by rw[←f_,fG];exact List.take_left' (by rw[aU, ←ha];simp only[fU];omega)
 have e2:(strip (A++(iU L++(iU L++(M++(iU R++(iU R++B))))))).drop (a+(b-a))=strip (iU R++B):=by
  have:A++(iU L++(iU L++(M++(iU R++(iU R++B)))))=(A++(iU L++(iU L++(M++iU R))))++(iU R++B):=by simp
  rw[this,fG];exact List.drop_left' (by rw[aU,show a+(b-a)=b by omega, ←hb'];simp only[fU];omega)
 rw[e1,e2];simp only[fG,ku,f_]
end Go.Proofs.YtheibfffilomcaaGreatDoor
