import Derived.Test.YtheibfffilomcabGreatDoorR4U
import Derived.Test.YtheibfffilomcabGreatDoorXdU
set_option linter.all false
set_option maxRecDepth 100000
namespace Go.Proofs.YtheibfffilomcabGreatDoor
open Go.RowKit Go.Proofs.Tryz
theorem mD(L:Lay)(s:TS)(n i k:Nat)(hn:n<2)(hi:i<s.rows)(hk:k<s.aa)(w:World)(ht:a_ w L s)(hI:s.Inv):Calls prog 85 #[.pointer (some ⟨L.tb,0,none⟩),.int .i64 (n:Int),.int .i64 (i:Int),.int .i64 (k:Int)] w fun e w'=>e= .returned (.agg (bO (s.cellAt n i k)))∧Sm w w':=by
 have hlt:=ht.lt;have ii:(i:Int)<(s.rows:Int):=by omega
 have ik:(k:Int)<(s.aa:Int):=by omega
 obtain⟨sb,off,g,c0,hcell,hsb,hrow,hget,hoff⟩:∃sb off g,w.cell? ⟨L.tb,off,none⟩=some (.slice (some ⟨sb,0,none⟩) s.rows s.rows)∧w.cell? ⟨sb,i,none⟩=some (.slice (some ⟨g,0,none⟩) s.aa s.aa)∧sb<w.heap.size∧
  aK (w.alloc (.cells (bO jU) 104)) g ((if n=0 then s.s0 else s.s1).getD i [])∧((if n=0 then s.s0 else s.s1).getD i [])[k]? =some (s.cellAt n i k)∧off=n*13:=by
  have key:∀(S:bK) (r:List aC),r.length=s.aa→r=S.getD i []→r[k]? =some ((S.getD i []).getD k aQ):=fun S r hr e=>by rw[←e];simp[List.getD,gK (show k<r.length by omega)]
  rcases(show n=0∨n=1 by omega)with rfl|rfl
  ·obtain⟨g,_,h2,h3,h4⟩:=ht.h0.get (i:=i) (by rw[hI.l0];exact hi);exact⟨L.sb0,0,g,ht.c 0 _ rfl,h2,ht.h0.lt,h3.kept (h_ _ _ _ h3.lt),key s.s0 _ h4 rfl,rfl⟩
  ·obtain⟨g,_,h2,h3,h4⟩:=ht.h1.get (i:=i) (by rw[hI.l1];exact hi);exact⟨L.sb1,13,g,ht.c 13 _ rfl,h2,ht.h1.lt,h3.kept (h_ _ _ _ h3.lt),key s.s1 _ h4 rfl,rfl⟩
 generalize s.cellAt n i k=c at*;generalize (if n=0 then s.s0 else s.s1).getD i []=r at*;have HR:Hid (aK (w.alloc (.cells (bO jU) 104)) g r):=hrow;have HG:Hid _:=hget;clear ht hI hrow hget;rcases(show n=0∨n=1 by omega)with rfl|rfl
 ·subst hoff;go_enter func85,ntmps85;go_wp2_with (first|(refine zR _ rfl (.tmp 20) rfl g (k*7) k r c rfl rfl HR.o HG.o ?_)|(refine bY _ rfl 104 (.tmp 8) (.tmp 21) rfl w.heap.size (cellV jU) (cellV c) rfl _ rfl rfl 104 (bJ _ _) rfl eF (gF c) ?_));intro u2 g2 k2 z2;go_wp2_with fail;exact gL (oQ results85 _ _ w.heap.size (cellV c) 104 (0,0) underlying104 eF rfl g2) rfl ⟨rfl,((Ch.refl _ _).alloc _).trans' k2 (fun k hk e=>by omega)⟩
 ·subst hoff;go_enter func85,ntmps85;go_wp2_with (first|(refine zR _ rfl (.tmp 20) rfl g (k*7) k r c rfl rfl HR.o HG.o ?_)|(refine bY _ rfl 104 (.tmp 8) (.tmp 21) rfl w.heap.size (cellV jU) (cellV c) rfl _ rfl rfl 104 (bJ _ _) rfl eF (gF c) ?_));intro u2 g2 k2 z2;go_wp2_with fail;exact gL (oQ results85 _ _ w.heap.size (cellV c) 104 (0,0) underlying104 eF rfl g2) rfl ⟨rfl,((Ch.refl _ _).alloc _).trans' k2 (fun k hk e=>by omega)⟩
theorem QO(fb:Nat)(L:Lay)(x:agR)(n i k:Nat)(hn:n<2)(hi:i<x.t.rows)(hk:k<x.t.aa)(w:World)(h:wU w fb L x)(hI:x.t.Inv):Calls prog 48 #[.pointer (some ⟨fb,0,none⟩),.int .i64 (n:Int),.int .i64 (i:Int),.int .i64 (k:Int)] w fun e w'=>e= .returned (.tuple #[.agg (bO (x.t.cellAt n i k)),.int .i64 0])∧Sm w w':=by have hpt:=h.pt;have hfl:=h.lt;have T:∀o,a_ (w.alloc o) L x.t:=fun o=>h.te.sm ((Ch.refl _ _).alloc _);have l0:∀o,_:=fun o=>zZ L (n:Int) (w.alloc o);rw[mE (show 0≤(n:Int)∧(n:Int)<2 by omega)]at l0;have l2:∀o,_:=fun o=>Hr L x.t (i:Int) (w.alloc o) (T o) hI;rw[mE (show 0≤(i:Int)∧(i:Int)<(x.t.rows:Int) by omega)]at l2;have l3:∀o,_:=fun o=>Hq L x.t (k:Int) (w.alloc o) (T o) hI;rw[mE (show 0≤(k:Int)∧(k:Int)<(x.t.aa:Int) by omega)]at l3;have l1:∀o,_:=fun o=>mD L x.t n i k hn hi hk (w.alloc o) (T o) hI;generalize x.t.cellAt n i k=c at*;clear h hI T;go_enter func48,ntmps48;go_wp2_with (first|(go_at_call 82;refine(l0 _).mono ?_;rintro e w1 ⟨rfl,hw1⟩;subst hw1)|(go_at_call 83;refine(l2 _).mono ?_;rintro e w1 ⟨rfl,hw1⟩;subst hw1)|(go_at_call 84;refine(l3 _).mono ?_;rintro e w1 ⟨rfl,hw1⟩;subst hw1)|(go_at_call 85;refine(l1 _).mono ?_;rintro e w1 ⟨rfl,s1⟩)|(refine bY _ rfl 104 (.tmp 8) (.tmp 43) rfl w.heap.size (cellV jU) (cellV c) rfl _ rfl rfl 104 ((s1.block _ (by simp) id).trans (bJ _ _)) rfl eF (gF c) ?_));intro u2 g2 k2 z2;go_wp2_with fail;exact gL (Im results48 _ _ w.heap.size (cellV c) 104 (0,0) underlying104 eF rfl g2) rfl ⟨rfl,(((Ch.refl _ _).alloc _).trans s1).trans' k2 (fun k hk e=>by omega)⟩
theorem Ga(L:Lay)(s:TS)(k:Nat)(hk:k<s.aa)(w:World)(ht:a_ w L s)(hI:s.Inv):Calls prog 92 #[.pointer (some ⟨L.tb,0,none⟩),.int .i64 (k:Int)] w fun e w'=>e= .returned (.bool (s.tabs.getD k false))∧w'=w:=by
 have c43:=ht.c 43 _ rfl;have ik:(k:Int)<(s.aa:Int):=by omega
 have hcell:w.cell? ⟨L.gb,k,none⟩=some (.bool (s.tabs.getD k false)):=by
  rw[dJ _ _ _ _ _ _ ht.tab];have:k<s.tabs.length:=by rw[hI.lt];exact hk
  simp[List.getD,gK this]
 generalize s.tabs.getD k false=b at*;clear ht hI;go_enter func92,ntmps92;go_wp2_with fail;go_ret;exact⟨rfl,rfl⟩
theorem agR.Ok.fresh{rows aa:Nat}(hr:1≤rows∧rows≤12)(hc:1≤aa∧aa≤40):(agR.fresh rows aa).Ok:=⟨RS.ok.zero,MS.ok.zero,TS.Inv.fresh hr hc⟩
theorem Hw(rows aa:Nat)(w:World)(hr:1≤rows∧rows≤12)(hc:1≤aa∧aa≤40):Calls prog 11 #[.int .i64 (rows:Int),.int .i64 (aa:Int)] w fun e w'=>e= .returned (.bool true)∧w'=w:=by
 have d1:(1:Int)≤(rows:Int):=by omega
 have d2:(rows:Int)≤12:=by omega
 have d3:(1:Int)≤(aa:Int):=by omega
 have d4:(aa:Int)≤40:=by omega
 go_enter func11,ntmps11;go_wp2_with fail;go_ret;exact⟨rfl,rfl⟩
theorem yC(rows aa:Nat)(w:World)(hr:1≤rows∧rows≤12)(hc:1≤aa∧aa≤40)(hs:2<w.heap.size):Calls prog 15 #[.int .i64 (rows:Int),.int .i64 (aa:Int)] w fun e w'=>∃fb L,e= .returned (.pointer (some ⟨fb,0,none⟩))∧wU w' fb L (agR.fresh rows aa)∧w.heap.size≤fb∧(∀k,L.own k→w.heap.size≤k)∧Below w.heap.size w w':=by
 have l1:=F_ rows aa w hr hc;go_enter func15,ntmps15;go_wp2_with (go_at_call 38;refine l1.mono ?_;rintro e w1 ⟨L,rfl,t1,o1,b1⟩);go_ret;refine⟨w1.heap.size,L,rfl,?_,b1.size,o1,b1.alloc b1.size _⟩;have hb:=bJ w1 (.cells #[.int .i64 0,.int .u8 0,.int .u8 0,.int .i64 0,.int .i64 0,.int .i64 0,.int .i64 0,.int .i64 0,.int .i64 0,.int .i64 0,.int .i64 0,.int .i64 0,.int .i64 0,.int .i64 0,.int .i64 0,.int .i64 0,.int .i64 0,.int .i64 0,.int .i64 0,.int .i64 0,.int .i64 0,.int .i64 0,.int .i64 0,.pointer (some ⟨L.tb,0,none⟩)] 62);have cell:∀j v,(#[.int .i64 0,.int .u8 0,.int .u8 0,.int .i64 0,.int .i64 0,.int .i64 0,.int .i64 0,.int .i64 0,.int .i64 0,.int .i64 0,.int .i64 0,.int .i64 0,.int .i64 0,.int .i64 0,.int .i64 0,.int .i64 0,.int .i64 0,.int .i64 0,.int .i64 0,.int .i64 0,.int .i64 0,.int .i64 0,.int .i64 0,.pointer (some ⟨L.tb,0,none⟩)]:Array Value)[j]? =some v→World.cell? (w1.alloc (.cells #[.int .i64 0,.int .u8 0,.int .u8 0,.int .i64 0,.int .i64 0,.int .i64 0,.int .i64 0,.int .i64 0,.int .i64 0,.int .i64 0,.int .i64 0,.int .i64 0,.int .i64 0,.int .i64 0,.int .i64 0,.int .i64 0,.int .i64 0,.int .i64 0,.int .i64 0,.int .i64 0,.int .i64 0,.int .i64 0,.int .i64 0,.pointer (some ⟨L.tb,0,none⟩)] 62)) ⟨w1.heap.size,j,none⟩=some v:=fun j v hv=>by rw[dJ _ _ _ _ _ _ hb];exact hv
 refine⟨⟨cell 0 _ rfl,cell 1 _ rfl,cell 2 _ rfl,cell 3 _ rfl,fun j _=>ou _ _ _ _ _ hb⟩,⟨rfl,fun j v hv=>?_,fun j _=>ou _ _ _ _ _ hb⟩,cell 23 _ rfl,t1.sm ((Ch.refl _ _).alloc _),fun e=>by have:=t1.jv e;omega,fun k hk=>by have:=o1 k hk;omega⟩;have hj:j<19:=(ja.1 hv).1;have hv0:v= .int .i64 0:=by rcases(show j=0∨j=1∨j=2∨j=3∨j=4∨j=5∨j=6∨j=7∨j=8∨j=9∨j=10∨j=11∨j=12∨j=13∨j=14∨j=15∨j=16∨j=17∨j=18 by omega)with rfl|rfl|rfl|rfl|rfl|rfl|rfl|rfl|rfl|rfl|rfl|rfl|rfl|rfl|rfl|rfl|rfl|rfl|rfl<;>exact(dI hv).symm
 subst hv0;rcases(show j=0∨j=1∨j=2∨j=3∨j=4∨j=5∨j=6∨j=7∨j=8∨j=9∨j=10∨j=11∨j=12∨j=13∨j=14∨j=15∨j=16∨j=17∨j=18 by omega)with rfl|rfl|rfl|rfl|rfl|rfl|rfl|rfl|rfl|rfl|rfl|rfl|rfl|rfl|rfl|rfl|rfl|rfl|rfl<;>exact cell _ _ rfl
theorem Kg(rows aa:Nat)(w:World)(hr:1≤rows∧rows≤12)(hc:1≤aa∧aa≤40)(hs:2<w.heap.size):Calls prog 47 #[.int .i64 (rows:Int),.int .i64 (aa:Int)] w fun e w'=>∃fb L,e= .returned (.tuple #[.pointer (some ⟨fb,0,none⟩),.int .i64 0])∧wU w' fb L (agR.fresh rows aa)∧w.heap.size≤fb∧(∀k,L.own k→w.heap.size≤k)∧Below w.heap.size w w':=by have l0:=Hw rows aa w hr hc;have l1:=yC rows aa w hr hc hs;go_enter func47,ntmps47;go_wp2_with (first|(go_at_call 11;refine l0.mono ?_;rintro e w1 ⟨rfl,hw1⟩;have hw2:=hw1.symm;subst hw2)|(go_at_call 15;refine l1.mono ?_;rintro e w1 ⟨fb,L,rfl,h1⟩));go_ret2;exact⟨fb,L,rfl,h1⟩
namespace TS
def Qr (s:TS):Nat × Nat:=(s.rows,s.aa)
theorem GZ(s:TS)(S:bK):(s.setCur S).Qr=s.Qr:=by unfold setCur;split<;>rfl
theorem Ct(s:TS)(n:Nat):(s.fe n).Qr=s.Qr:=GZ _ _
theorem Od(s:TS):s.down.Qr=s.Qr:=by unfold down;split<;>first|exact Ct _ _|rfl
theorem Cs(s:TS):s.aT.Qr=s.Qr:=Od _
theorem GX(s:TS):s.dS.Qr=s.Qr:=by unfold dS;split<;>first|exact Cs _|rfl
end TS
def RS.Low (s:RS):Prop:=s.m≠0→128≤s.lo
theorem OU{b:Int}{r:RS}(h:lead b=some r):r.Low:=by
 unfold lead at h
 repeat' split at h
 all_goals first|(cases h;done)|(cases h;intro _;dsimp only;omega)
theorem RS.Low.zero:RS.zero.Low:=fun h=>absurd rfl h
theorem RS.Low.sw{s:RS}(h:s.Low)(b:Int):(s.sw b).1.Low:=by
 unfold RS.sw;split
 ·exact h
 ·split
  ·rename_i r hr;exact OU hr
  ·exact h
theorem RS.Low.take{s:RS}(h:s.Low)(b:Int):(s.take b).1.Low:=by
 unfold RS.take;split
 ·exact h.sw b
 ·split
  ·have hf:s.fin.1.Low:=by
    unfold RS.fin;split
    ·exact h
    ·exact RS.Low.zero
   exact hf.sw b
  ·unfold RS.join;split
   ·exact RS.Low.zero
   ·intro _;show(128:Int)≤128;omega
theorem QU(l:List Int):∀x:agR,(x.chars l).r=x.r:=by
 induction l with
 |nil=>intro x;rfl
 |cons c l ih=>intro x;exact ih _
end Go.Proofs.YtheibfffilomcabGreatDoor
