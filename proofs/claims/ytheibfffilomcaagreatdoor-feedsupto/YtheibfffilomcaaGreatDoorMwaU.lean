import Derived.Test.YtheibfffilomcaaGreatDoorTmaU
import Derived.Test.YtheibfffilomcaaGreatDoorEvbU
set_option linter.all false
set_option maxHeartbeats 1000000
namespace Go.Proofs.YtheibfffilomcaaGreatDoor
open Go.RowKit Go.Proofs.Tryz
variable {w a b w' u:World} {P R:Nat→Prop} {rb ro g k base:Nat} {r:List aI} {ops:Array Oper} {rest:List Oper} {Q:Exit→Act→World→Prop} {v':Value} {L:List Int}
def dG (p:fO):List Value:=[.bool p.b,.bool p.u,.bool p.t,.int .i64 p.f,.int .i64 p.k]
def aW (p:fO):Array Value:=(dG p).toArray
def cellV (c:aI):List Value:=[.int .i64 c.r,.bool c.p.b,.bool c.p.u,.bool c.p.t,.int .i64 c.p.f,.int .i64 c.p.k,.int .i64 c.part]
def dw (c:aI):Array Value:=(cellV c).toArray
def kN:List aI→List Value
 | []=>[]
 |c::r=>cellV c++kN r
def BP (r:List aI):Array Value:=(kN r).toArray
theorem fF(c:aI):(cellV c).length=7:=rfl
theorem tC(c:aI):(dw c).size=7:=rfl
theorem jW(c:aI):∀v∈cellV c,v.oneCell'=true:=by intro v hv;simp only[cellV,kK,pX,pY]at hv;rcases hv with rfl|rfl|rfl|rfl|rfl|rfl|rfl<;>rfl
theorem MR(c:aI):(dw c).all (·.oneCell')=true:=all_oneCell_toArray (jW c)
theorem eO:∀r:List aI,(kN r).length=r.length*7
 | []=>rfl
 |c::r=>by rw[kN,fU,eO r,fF,fE];omega
theorem NN(r:List aI):(BP r).size=r.length*7:=by simp[BP,eO]
theorem uW:∀a b:List aI,kN (a++b)=kN a++kN b
 | [],b=>rfl
 |c::a,b=>by simp[kN,uW a b]
theorem Ig:∀r:List aI,∀v∈kN r,v.oneCell'=true
 | [],v,h=>by simp[kN]at h
 |c::r,v,h=>by
  rcases nM.1 h with h|h
  ·exact jW c v h
  ·exact Ig r v h
theorem zH:∀(r:List aI) (k:Nat),(kN r).take (k*7)=kN (r.take k)
 | [],k=>by simp[kN]
 |c::r,0=>by simp[kN]
 |c::r,k+1=>by rw[List.take_succ_cons,kN,kN,List.take_append,fF, ←zH r k,show(k+1)*7-7=k*7 by omega,l6 (by rw[fF];omega)]
theorem vV:∀(r:List aI) (k:Nat),(kN r).drop (k*7)=kN (r.drop k)
 | [],k=>by simp[kN]
 |c::r,0=>by simp[kN]
 |c::r,k+1=>by rw[AP,kN,List.drop_append,fF, ←vV r k,show(k+1)*7-7=k*7 by omega,qB (by rw[fF];omega)];rfl
theorem Vl(r:List aI)(k:Nat)(c:aI)(h:r[k]? =some c):((kN r).drop (k*7)).take 7=cellV c:=by have hk:=(gJ.1 h);obtain⟨hk,hc⟩:=hk;rw[vV, ←List.getElem_cons_drop hk,kN,hc];simp[cellV]
def aV (w:World) (g:Nat) (r:List aI):Prop:=w.heap[g]? =some (.cells (BP r) 101 (0,0))
theorem aV.kept{w w':World}{g:Nat}{r:List aI}(h:aV w g r)(hb:w'.heap[g]? =w.heap[g]?):aV w' g r:=hb.trans h
theorem aV.lt{w:World}{g:Nat}{r:List aI}(h:aV w g r):g<w.heap.size:=by
 by_cases hl:g<w.heap.size
 ·exact hl
 ·unfold aV at h;rw[zU (by omega)]at h;cases h
theorem aV.cell{w:World}{g:Nat}{r:List aI}(h:aV w g r)(i:Nat):w.cell? ⟨g,i,none⟩=(kN r)[i]? :=by rw[bG _ _ _ _ _ _ h];simp[BP]
theorem aV.range(h:aV w g r){c:aI}(hk:r[k]? =some c):w.rangeAt g (k*7) (cellV c):=by intro j v hv;rw[h.cell, ←hv, ←Vl r k c hk,mJ,ak (by rw[←fF c];exact(gJ.1 hv).1),rf]
theorem aV.there(h:aV w g r){n:Nat}(hk:k*7+n≤r.length*7):w.there g (k*7) n:=fun j hj=>⟨by rw[h.cell,eG (by rw[eO];omega)];rfl,oh _ _ _ _ _ h⟩
structure Ch (P:Nat→Prop) (w w':World):Prop where
 os:w'.os=w.os
 tape:w'.tape=w.tape
 output:w'.output=w.output
 size:w.heap.size≤w'.heap.size
 block:∀k,k<w.heap.size→¬P k→w'.heap[k]? =w.heap[k]?
theorem Ch.refl(P:Nat→Prop)(w:World):Ch P w w:=⟨rfl,rfl,rfl,bN _,fun _ _ _=>rfl⟩
theorem Ch.trans{c:World}(h:Ch P a b)(k:Ch P b c):Ch P a c:=
 ⟨k.os.trans h.os,k.tape.trans h.tape,k.output.trans h.output,iD h.size k.size,fun i hi hn=>(k.block i (fJ hi h.size) hn).trans (h.block i hi hn)⟩
theorem Ch.mono(h:Ch P a b)(hi:∀k,k<a.heap.size→P k→R k):Ch R a b:=
 ⟨h.os,h.tape,h.output,h.size,fun k hk hn=>h.block k hk (fun hp=>hn (hi k hk hp))⟩
theorem Ch.trans'{c:World}(h:Ch P a b)(k:Ch R b c)(hi:∀k,k<a.heap.size→R k→P k):Ch P a c:=
 ⟨k.os.trans h.os,k.tape.trans h.tape,k.output.trans h.output,iD h.size k.size,fun i hl hn=>(k.block i (fJ hl h.size) (fun hr=>hn (hi i hl hr))).trans (h.block i hl hn)⟩
theorem Ch.of_below(h:Below w.heap.size w w'):Ch P w w':=⟨h.os,h.tape,h.output,h.size,fun k hk _=>h.block k hk⟩
theorem Ch.below(h:Ch P w w'){B:Nat}(hB:B≤w.heap.size)(hP:∀k,k<B→¬P k):Below B w w':=⟨h.os,h.tape,h.output,h.size,fun k hk=>h.block k (by omega) (hP k hk)⟩
theorem Ch.alloc{P:Nat→Prop}{w u:World}(h:Ch P w u)(o:Obj):Ch P w (u.alloc o):=h.trans (Ch.of_below ((dU _ _).alloc (bN _) o))
theorem Ch.drewN(h:Ch P w u)(n:Nat):Ch P w (u.drewN n):=⟨h.os,h.tape,h.output,h.size,h.block⟩
theorem Ch.drew(h:Ch P w u):Ch P w u.drew:=⟨h.os,h.tape,h.output,h.size,h.block⟩
theorem Ch.set(h:Ch P w u)(g o:Nat)(v:Value)(hg:g<w.heap.size→P g):Ch P w (u.setCell ⟨g,o,none⟩ v):=
 h.trans' (R:=(· =g)) ⟨rfl,rfl,rfl,by simp[World.setCell],fun k _ hn=>AQ _ _ _ _ hn⟩ (fun k hk e=>e▸hg (e▸hk))
theorem Ch.row(h:Ch P w w')(hr:aV w g r)(hn:¬P g):aV w' g r:=hr.kept (h.block g hr.lt hn)
theorem rM(b:Nat):∀(vs:List Value) (o:Nat) (w:World) (cs:Array Value) (t:TypeId),w.heap[b]? =some (.cells cs t (0,0))→
 ∃cs',(w.setCells b o vs).heap[b]? =some (.cells cs' t (0,0))∧cs'.size=cs.size∧∀i,cs'[i]? =if o≤i∧i<o+vs.length∧i<cs.size then vs[i-o]? else cs[i]?
 | [],o,w,cs,t,h=>⟨cs,h,rfl,fun i=>by rw[ai (by simp;omega)]⟩
 |v::r,o,w,cs,t,h=>by
  obtain⟨cs',h1,h2,h3⟩:=rM b r (o+1) _ _ t (rR w b o cs t v h);refine⟨cs',h1,by rw[h2];simp,fun i=>?_⟩;rw[h3];simp only[fE,Array.size_setIfInBounds];by_cases hi:i=o
  ·subst hi;rw[ai (by omega)];by_cases hc:i<cs.size
   ·rw[ak (by omega)];simp[hc]
   ·rw[ai (by omega),zU (by omega:cs.size≤i),zU (by simp;omega)]
  ·by_cases hc:o+1≤i∧i<o+1+r.length∧i<cs.size
   ·rw[ak hc,ak (by omega),show i-o=(i-(o+1))+1 by omega,F5]
   ·rw[ai hc,ai (by omega),Array.getElem?_setIfInBounds,ai (by omega)]
theorem g_:(prog.info? 101).map (·.size)=some 7:=by kernel_rfl
theorem Mg(h:aV w g r)(k:Nat)(q:List aI)(hk:k+q.length≤r.length):aV (w.setCells g (k*7) (kN q)) g (jZ r k q):=by
 obtain⟨cs',q1,q2,q3⟩:=rM g (kN q) (k*7) w (BP r) 101 h;unfold aV;rw[q1]
 congr 2
 apply Array.ext_getElem?;intro i;rw[q3,NN,eO,BP,BP,CZ,CZ,jZ,uW,uW, ←zH, ←vV];by_cases hi:k*7≤i∧i<k*7+q.length*7∧i<r.length*7
 ·rw[ak hi,og (by rw[kg,eO];omega),kg,eO,show min (k*7) (r.length*7)=k*7 by omega,qA (by rw[eO];omega)]
 ·rw[ai hi];by_cases h1:i<k*7
  ·rw[qA (by rw[kg,eO];omega),mJ,ak h1]
  ·rw[og (by rw[kg,eO];omega),kg,eO,show min (k*7) (r.length*7)=k*7 by omega];by_cases h2:i<k*7+q.length*7
   ·omega
   ·rw[og (by rw[eO];omega),rf,eO,show(k+q.length)*7+(i-k*7-q.length*7)=i by omega]
theorem Q9(r:List aI)(k:Nat)(c:aI)(hk:k<r.length):jZ r k [c]=r.set k c:=by rw[List.set_eq_take_append_cons_drop,ak hk];rfl
theorem Cj{o:Oper}{a:Act}(u:World)(hgd:o.guard=none)(x:Operand)(ho:o.op= .load 101 x)(g off k:Nat)(r:List aI)(c:aI)(hx:a.eval x= .pointer (some ⟨g,off,none⟩))(hoff:off=k*7)(hg:aV u g r)(hc:r[k]? =some c)(h:wpList prog ops Q rest (a.put o.dst (.agg (dw c))) u):wpList prog ops Q (o::rest) a u:=by
 subst hoff;exact wpList_load_mid hgd 101 x ho g (k*7) hx (cellV c) _ (hg.range hc) underlying101 rfl (by rw[fF];exact g_) h
theorem sM{o:Oper}{a:Act}(u:World)(hgd:o.guard=none)(x y:Operand)(ho:o.op= .store 101 x y)(g off k:Nat)(r:List aI)(c:aI)(hx:a.eval x= .pointer (some ⟨g,off,none⟩))(hoff:off=k*7)(arr:Array Value)(hy:a.eval y= .agg arr)(harr:arr=dw c)(hg:aV u g r)(hk:k<r.length)(h:∀u',aV u' g (r.set k c)→Ch (· =g) u u'→u'.heap.size=u.heap.size→wpList prog ops Q rest (a.put o.dst undef) u'):wpList prog ops Q (o::rest) a u:=by
 subst hoff harr;refine wpList_store_mid hgd 101 x y ho g (k*7) (dw c) hx hy (hg.there (by rw[tC];omega)) (by rw[tC];exact g_) (MR _) ?_;have hl:=Mg hg k [c] (by simp;omega);rw[Q9 _ _ _ hk]at hl;have hz:=size_setCells g (cellV c) (k*7) u;exact h _ (by simpa[kN,dw]using hl) ⟨hz.2.1,hz.2.2.1,hz.2.2.2,by rw[show(dw c).toList=cellV c from rfl];omega,fun i _ hn=>iR g _ _ _ i hn⟩ hz.1
structure Kl (v v':Value) (rb ro:Nat) (w w':World):Prop where
 os:w'.os=w.os
 tape:w'.tape=w.tape
 output:w'.output=w.output
 size:w.heap.size≤w'.heap.size
 block:∀k,k<w.heap.size→k≠rb→v.ownBlock≠some k→w'.heap[k]? =w.heap[k]?
 cell:∀o,(o<ro∨ro+4≤o)→w'.cell? ⟨rb,o,none⟩=w.cell? ⟨rb,o,none⟩
 frozen:∀o,w'.frozen? ⟨rb,o,none⟩=w.frozen? ⟨rb,o,none⟩
 own:∀k,v'.ownBlock=some k→v.ownBlock=some k∨w.heap.size≤k
theorem Kl.refl(v:Value)(rb ro:Nat)(w:World):Kl v v rb ro w w:=⟨rfl,rfl,rfl,bN _,fun _ _ _ _=>rfl,fun _ _=>rfl,fun _=>rfl,fun _ h=>.inl h⟩
theorem Kl.trans{v v1 v2:Value}{c:World}(h:Kl v v1 rb ro a b)(k:Kl v1 v2 rb ro b c):Kl v v2 rb ro a c:=
 ⟨k.os.trans h.os,k.tape.trans h.tape,k.output.trans h.output,iD h.size k.size,fun i hi hn hv=>(k.block i (fJ hi h.size) hn (fun e=>by rcases h.own i e with q|q;exact hv q;omega)).trans (h.block i hi hn hv),
  fun o ho=>(k.cell o ho).trans (h.cell o ho),fun o=>(k.frozen o).trans (h.frozen o),fun i hi=>by
   rcases k.own i hi with q|q
   ·exact h.own i q
   ·exact .inr (iD h.size q)⟩
theorem Kl.iQ(v:Value)(w:World)(s:RS):Kl v v rb ro w (World.iQ w rb ro s):=by have k:=BV (base:=w.heap.size) (rb:=rb) (ro:=ro) w s;exact⟨k.os,k.tape,k.output,k.size,fun i hi hn _=>k.block i hi hn,k.cell,k.frozen,fun _ h=>.inl h⟩
theorem Kl.below{v:Value}(h:Below w.heap.size w w')(hr:rb<w.heap.size):Kl v v rb ro w w':=⟨h.os,h.tape,h.output,h.size,fun i hi _ _=>h.block i hi,fun _ _=>h.cell hr,fun _=>h.frozen hr,fun _ h=>.inl h⟩
theorem Kl.grown{v:Value}{w1:World}(h:u.grownBy w1 v.ownBlock)(ho:∀k,v'.ownBlock=some k→v.ownBlock=some k∨u.heap.size≤k)(hne:v.ownBlock≠some rb)(hr:rb<u.heap.size):Kl v v' rb ro u w1:=by have hb:w1.heap[rb]? =u.heap[rb]? :=h.block rb hr (fun e=>hne e.symm);exact⟨h.os,h.tape,h.output,h.size,fun i hi _ hv=>h.block i hi (fun e=>hv e.symm),fun _ _=>dA hb,fun _=>CY hb,ho⟩
theorem tO{c:World}{row:Option Nat}(h:a.grownBy b row)(k:b.grownBy c row):a.grownBy c row:=⟨k.os.trans h.os,k.tape.trans h.tape,k.output.trans h.output,iD h.size k.size,fun i hi hn=>(k.block i (fJ hi h.size) hn).trans (h.block i hi hn)⟩
theorem yR{o:Oper}{a:Act}(u:World)(hgd:o.guard=none)(s x:Operand)(ho:o.op= .call {callee:=.builtin .append,args:=#[s,x],argTypes:=#[53,53]})(base:Nat)(v:Value)(L:List Int)(y:Int)(hs:a.eval s=v)(own:gI u base v L)(g:Nat)(hg:g=u.heap.size)(hx:a.eval x= .slice (some ⟨g,0,none⟩) 1 1)(hL:L.length≤1000000000)(hb:base≤u.heap.size)(h:∀v' w',gI w' base v' (L++[y])→Below base u w'→u.grownBy w' v.ownBlock→(∀k,v'.ownBlock=some k→v.ownBlock=some k∨u.heap.size≤k)→wpList prog ops Q rest (a.put o.dst v') w'):wpList prog ops Q (o::rest) a (u.alloc (.cells #[.int .i64 y] 3)):=by
 obtain⟨i0,hi,hz0,hz1,hz2⟩:=info_parts info3;subst hg;refine jI _ hgd s x 53 ho base 3 i0 (.int .i64 0) 1 8 underlying53 hi hz0 hz1 hz2 rfl v _ _ hs (xS own _) ⟨u.heap.size,0,none⟩ 1 1 [.int .i64 y] hx rfl (cell_one_new _ _ _) ?_ (by omega) ?_ ?_ ?_ ?_
 ·intro z hz;simp at hz;subst hz;rfl
 ·unfold maxLen;omega
 ·omega
 ·simp;omega
 ·intro v' w' hown hgrow hor _;have hg2:u.grownBy w' v.ownBlock:=tO (World.grownBy_alloc u _ _) hgrow;refine h v' w' (gI.one hown) ?_ hg2 (fun k hk=>?_)
  ·refine((dU base u).alloc hb _).grown hgrow (by simp;omega) ?_;intro k hk;exact((wN own) k hk).1
  ·rcases hor with q|⟨k',q1,q2⟩
   ·exact .inl (q▸hk)
   ·rw[q1]at hk;cases hk;exact .inr (by simp at q2;omega)
theorem own_ne{v:Value}(own:gI w base v L)(h:rb<base):v.ownBlock≠some rb:=fun e=>by have:=((wN own) rb e).1;omega
theorem qb.kl{v:Value}(h:qb w)(k:Kl v v' rb ro w w')(hr:0≠rb)(hv:v.ownBlock≠some 0)(hs:0<w.heap.size):qb w':=h.kept (k.block 0 hs hr hv)
theorem M8(base rb ro:Nat)(s:RS)(v:Value)(L:List Int)(w:World)(rd:mM w rb ro s)(hm:(s.m==0)=false)(own:gI w base v L)(hL:L.length≤1000000000)(hrb:rb<base)(hb:base≤w.heap.size):
 Calls prog 51 #[.pointer (some ⟨rb,ro,none⟩),v] w fun e w'=>∃v',e= .returned v'∧gI w' base v' (L++[65533])∧mM w' rb ro .zero∧Kl v v' rb ro w w':=by
 have c0:=rd.c0;have c1:=rd.c1;have c2:=rd.c2;have c3:=rd.c3;have f0:=rd.f 0 (by omega);have f1:=rd.f 1 (by omega);have f2:=rd.f 2 (by omega);have f3:=rd.f 3 (by omega);simp only[uw]at f0;go_enter func51,ntmps51;go_wp2_with (at_builtin;refine yR (World.iQ w rb ro .zero) rfl _ _ rfl base _ L _ rfl ?c1 _ ?c2 rfl hL ?c3 ?_)
 case c1=>exact gI.iQ own hrb .zero
 case c2=>simp[World.iQ]
 case c3=>simpa[World.iQ]using hb
 intro v' w1 jR hbel hgr hown;have NH:mM w1 rb ro .zero:=(yK rd .zero).kept (hbel.block rb hrb);have k1:Kl v v' rb ro w w1:=(Kl.iQ v w .zero).trans (Kl.grown hgr hown (own_ne own hrb) (by simp[World.iQ];omega));clear c0 c1 c2 c3 f0 f1 f2 f3;go_wp2_with fail;go_ret;exact⟨_,rfl,jR,NH,k1⟩
theorem JZ(base rb ro:Nat)(s:RS)(b:Int)(v:Value)(L:List Int)(w:World)(rd:mM w rb ro s)(hm:(s.m==1)=true)(hv:0≤s.val)(hv':s.val<32768)(hb0:0≤b)(hb1:b<256)(own:gI w base v L)(hL:L.length≤1000000000)(hrb:rb<base)(hb:base≤w.heap.size):
 Calls prog 52 #[.pointer (some ⟨rb,ro,none⟩),v,.int .u8 b] w fun e w'=>∃v',e= .returned v'∧gI w' base v' (L++[s.val*64+b % 64])∧mM w' rb ro .zero∧Kl v v' rb ro w w':=by
 have abO:=Dp s.val (b % 64) hv (by omega) (by omega) (by omega);have c0:=rd.c0;have c1:=rd.c1;have c2:=rd.c2;have c3:=rd.c3;have f0:=rd.f 0 (by omega);have f1:=rd.f 1 (by omega);have f2:=rd.f 2 (by omega);have f3:=rd.f 3 (by omega);simp only[uw]at f0;go_enter func52,ntmps52;go_wp2_with (at_builtin;refine yR (World.iQ w rb ro .zero) rfl _ _ rfl base _ L _ rfl ?c1 _ ?c2 rfl hL ?c3 ?_)
 case c1=>exact gI.iQ own hrb .zero
 case c2=>simp[World.iQ]
 case c3=>simpa[World.iQ]using hb
 intro v' w1 jR hbel hgr hown;have NH:mM w1 rb ro .zero:=(yK rd .zero).kept (hbel.block rb hrb);have k1:Kl v v' rb ro w w1:=(Kl.iQ v w .zero).trans (Kl.grown hgr hown (own_ne own hrb) (by simp[World.iQ];omega));clear c0 c1 c2 c3 f0 f1 f2 f3;go_wp2_with fail;go_ret;exact⟨_,rfl,jR,NH,k1⟩
theorem Np(base rb ro:Nat)(s:RS)(b:Int)(v:Value)(L:List Int)(w:World)(rd:mM w rb ro s)(hs:s.ok)(hm:s.m≠0)(hb0:0≤b)(hb1:b<256)(own:gI w base v L)(hL:L.length≤1000000000)(hrb:rb<base)(hb:base≤w.heap.size):
 Calls prog 52 #[.pointer (some ⟨rb,ro,none⟩),v,.int .u8 b] w fun e w'=>∃v',e= .returned v'∧gI w' base v' (L++(s.join b).2)∧mM w' rb ro (s.join b).1∧Kl v v' rb ro w w':=by
 obtain⟨a1,a2,a3,a4,a5,a6⟩:=hs;by_cases h1:s.m=1
 ·have e:s.join b=(.zero,[s.val*64+b % 64]):=by simp[RS.join,h1]
  rw[e];exact JZ base rb ro s b v L w rd (by simp[h1]) a3 (a4 h1) hb0 hb1 own hL hrb hb
 ·have e:s.join b=(⟨s.m-1,128,191,s.val*64+b % 64⟩,[]):=by simp[RS.join,h1]
  rw[e];refine(U0 rb ro s b v w rd (by simp[h1]) a1 a2 a3 (by omega) hb0 hb1).mono ?_;rintro e w' ⟨rfl,rfl⟩;exact⟨v,rfl,by simpa using gI.iQ own hrb _,yK rd _,Kl.iQ v w _⟩
theorem GG(base rb ro:Nat)(s:RS)(v:Value)(L:List Int)(w:World)(rd:mM w rb ro s)(own:gI w base v L)(hL:L.length≤1000000000)(hrb:rb<base)(hb:base≤w.heap.size):
 Calls prog 51 #[.pointer (some ⟨rb,ro,none⟩),v] w fun e w'=>∃v',e= .returned v'∧gI w' base v' (L++s.fin.2)∧mM w' rb ro s.fin.1∧Kl v v' rb ro w w':=by
 by_cases h:s.m=0
 ·have e:s.fin=(s,[]):=by simp[RS.fin,h]
  rw[e];refine(Qs rb ro s v w rd (by simp[h])).mono ?_;rintro e w' ⟨rfl,rfl⟩;exact⟨v,rfl,by simpa using own,rd,Kl.refl _ _ _ _⟩
 ·have e:s.fin=(.zero,[65533]):=by simp[RS.fin,h]
  rw[e];exact M8 base rb ro s v L w rd (by simp[h]) own hL hrb hb
theorem P6(base rb ro:Nat)(b:Int)(v:Value)(L:List Int)(w:World)(hb0:0≤b)(hb1:b<128)(own:gI w base v L)(hL:L.length≤1000000000)(hb:base≤w.heap.size)(hrb:rb<base):
 Calls prog 50 #[.pointer (some ⟨rb,ro,none⟩),v,.int .u8 b] w fun e w'=>∃v',e= .returned v'∧gI w' base v' (L++[b])∧Below base w w'∧Kl v v' rb ro w w':=by
 go_enter func50,ntmps50;go_wp2_with (at_builtin;refine yR w rfl _ _ rfl base _ L _ rfl ?c1 _ ?c2 rfl hL ?c3 ?_)
 case c1=>exact own
 case c2=>rfl
 case c3=>exact hb
 intro v' w1 jR hbel hgr hown;go_wp2_with fail;go_ret;exact⟨_,rfl,jR,hbel,Kl.grown hgr hown (own_ne own hrb) (by omega)⟩
theorem KE{wr:World}{v:Value}{s0:RS}(o:Obj)(s:RS)(own:gI wr base v L)(rd:mM wr rb ro s0)(hbel:Below w.heap.size w wr)(hb0:base≤w.heap.size)(hrb:rb<base)(hb:base≤wr.heap.size):
 gI ((World.iQ wr rb ro s).alloc o) base v L∧mM ((World.iQ wr rb ro s).alloc o) rb ro s∧Kl v v rb ro w ((World.iQ wr rb ro s).alloc o):=by
 obtain⟨h1,h2,_⟩:=Od (w:=w) o s own rd (hbel.mono hb0) hrb hb;refine⟨h1,h2,((Kl.below hbel (by omega)).trans (Kl.iQ v wr s)).trans (Kl.below ((dU _ _).alloc (bN _) o) ?_)⟩;have:=(Kl.iQ v (rb:=rb) (ro:=ro) wr s).size;omega
theorem MO(base rb ro:Nat)(s:RS)(b:Int)(v:Value)(L:List Int)(w:World)(rd:mM w rb ro s)(hb0:128≤b)(hb1:b<256)(hle:qb w)(hrb:rb<base)(own:gI w base v L)(hL:L.length≤1000000000)(hb:base≤w.heap.size):
 Calls prog 50 #[.pointer (some ⟨rb,ro,none⟩),v,.int .u8 b] w fun e w'=>∃v',e= .returned v'∧gI w' base v' (L++(s.uC b).2)∧mM w' rb ro (s.uC b).1∧Kl v v' rb ro w w':=by
 obtain⟨lt,lfr,uR⟩:=hle;have HL:Hid _:=uR;clear uR;have hd:decide (b<128)=false:=by simp;omega
 go_enter func50,ntmps50;go_wp2_with (refine fC rfl 154 _ rfl 0 rfl lt iT lfr _ HL.o underlying154 rfl YI ?_);go_loopw [17] (fun i wr=>∃k:Nat,k≤8∧i= .int .i64 k∧Below w.heap.size w wr∧Wh k b) (fun i _=>8-(intOf i).toNat)
 case atStart=>exact⟨0,dx _,rfl,dU _ _,by unfold Wh;simp;omega⟩
 case round=>
  obtain⟨k,hk,rfl,hbel,hno⟩:=hrel;by_cases hlt:k<8
  ·obtain⟨f,l,mk,mo,lo,hi,q,hidx,hq,hq0,hq1,hhit,hm1,hm2⟩:=acL k hlt b hb0 hb1 hno;have aeq:Hid _:=hhit;have Hm1:Hid _:=hm1;have Hm2:Hid _:=hm2;clear hhit hm1 hm2;have rd':mM wr rb ro s:=rd.kept (hbel.block rb (by omega));have own':gI wr base v L:=own.below hbel;have c0:=rd'.c0;have c1:=rd'.c1;have c2:=rd'.c2;have c3:=rd'.c3;have f0:=rd'.f 0 (by omega);have f1:=rd'.f 1 (by omega);have f2:=rd'.f 2 (by omega);have f3:=rd'.f 3 (by omega);simp only[uw]at f0;have hsz:rb<wr.heap.size:=by have:=hbel.size;omega
   go_wp2_with fail
   ·have hf:f≤b:=by assumption
    have hl:b≤l:=by assumption
    have e:s.uC b=(⟨mo,lo,hi,q⟩,[]):=by simp[RS.uC,aeq.o hf hl,show¬b<128 by omega]
    have R:=KE (.cells #[.int .u8 f,.int .u8 l,.int .u8 mk,.int .i64 mo,.int .u8 lo,.int .u8 hi] 153) ⟨mo,lo,hi,q⟩ own' rd' hbel hb hrb (by have:=hbel.size;omega);clear c0 c1 c2 c3 f0 f1 f2 f3;go_ret;rw[e];exact⟨v,rfl,by rw[gp];exact R.1,R.2.1,R.2.2⟩
   ·have hl:l<b:=by assumption
    go_roundw
    case rel=>exact⟨k+1,by omega,by go_num,hbel.alloc hbel.size _,Hm2.o hl⟩
    case measure=>simp[intOf];omega
   ·have hl:b<f:=by have h:¬f≤b:=by assumption
                    omega
    go_roundw
    case rel=>exact⟨k+1,by omega,by go_num,hbel.alloc hbel.size _,Hm1.o hl⟩
    case measure=>simp[intOf];omega
  ·have Yt:k=8:=by omega
   subst Yt;have own':gI wr base v L:=own.below hbel;have rd':mM wr rb ro s:=rd.kept (hbel.block rb (by omega));have e:s.uC b=(s,[65533]):=by simp[RS.uC,Ve b hno,show¬b<128 by omega]
   have He:Hid _:=e;clear e;go_wp2_with (at_builtin;refine yR wr rfl _ _ rfl base _ L _ rfl ?c1 _ ?c2 rfl hL ?c3 ?_)
   case c1=>exact own'
   case c2=>rfl
   case c3=>have:=hbel.size;omega
   intro v' w1 jR GV hgr hown;have NH:mM w1 rb ro s:=rd'.kept (GV.block rb hrb);have k1:Kl v v' rb ro w w1:=(Kl.below hbel (by omega)).trans (Kl.grown hgr hown (own_ne own' hrb) (by have:=hbel.size;omega));go_wp2_with fail;go_ret;rw[He.o];exact⟨_,rfl,jR,NH,k1⟩
theorem Bc(base rb ro:Nat)(s:RS)(b:Int)(v:Value)(L:List Int)(w:World)(rd:mM w rb ro s)(hb0:0≤b)(hb1:b<256)(hle:qb w)(hrb:rb<base)(own:gI w base v L)(hL:L.length≤1000000000)(hb:base≤w.heap.size):
 Calls prog 50 #[.pointer (some ⟨rb,ro,none⟩),v,.int .u8 b] w fun e w'=>∃v',e= .returned v'∧gI w' base v' (L++(s.uC b).2)∧mM w' rb ro (s.uC b).1∧Kl v v' rb ro w w':=by
 by_cases h:b<128
 ·refine(P6 base rb ro b v L w hb0 h own hL hb hrb).mono ?_;rintro e w' ⟨v',rfl,jR,hbel,kl⟩;have e:s.uC b=(s,[b]):=by simp[RS.uC,h]
  rw[e];exact⟨v',rfl,jR,rd.kept (hbel.block rb hrb),kl⟩
 ·exact MO base rb ro s b v L w rd (by omega) hb1 hle hrb own hL hb
theorem Ot(base rb ro:Nat)(s:RS)(b:Int)(v:Value)(L:List Int)(w:World)(rd:mM w rb ro s)(hs:s.ok)(hb0:0≤b)(hb1:b<256)(hle:qb w)(hr1:1<rb)(hrb:rb<base)(own:gI w base v L)(hL:L.length≤900000000)(hb:base≤w.heap.size):
 Calls prog 25 #[.pointer (some ⟨rb,ro,none⟩),v,.int .u8 b] w fun e w'=>∃v',e= .returned v'∧gI w' base v' (L++(s.take b).2)∧mM w' rb ro (s.take b).1∧Kl v v' rb ro w w':=by
 have c0:=rd.c0;have c1:=rd.c1;have c2:=rd.c2;by_cases hm:s.m=0
 ·have e:s.take b=s.uC b:=by simp[RS.take,hm]
  rw[e];have hm':(s.m==0)=true:=by simp[hm]
  clear e hm;go_enter func25,ntmps25;go_wp2_with (go_at_call 50;refine(Bc base rb ro s b v L _ rd hb0 hb1 hle hrb own (by omega) hb).mono ?_;rintro e w1 ⟨v1,rfl,jR,NH,k1⟩);go_ret;exact⟨v1,rfl,jR,NH,k1⟩
 ·have hm':(s.m==0)=false:=by simp[hm]
  by_cases hlo:b<s.lo∨s.hi<b
  ·have e:s.take b=((s.fin.1.uC b).1,s.fin.2++(s.fin.1.uC b).2):=by simp[RS.take,hm,hlo]
   have hfl:(L++s.fin.2).length≤1000000000:=by
    have:s.fin.2.length≤1:=by unfold RS.fin;split<;>simp
    simp;omega
   rw[e];clear e hm;by_cases hlo1:b<s.lo
   ·clear hlo;go_enter func25,ntmps25;go_wp2_with fail;refine(GG base rb ro s v L _ rd own (by omega) hrb hb).mono ?_;rintro e w1 ⟨v1,rfl,jR,NH,k1⟩;have hb':base≤w1.heap.size:=by have:=k1.size;omega
    have hle1:qb w1:=hle.kl k1 (by omega) (own_ne own (by omega)) (by omega);go_wp2_with fail;refine(Bc base rb ro s.fin.1 b v1 (L++s.fin.2) _ NH hb0 hb1 hle1 hrb jR hfl hb').mono ?_;rintro e w2 ⟨v2,rfl,kM,rd2,k2⟩;go_wp2_with fail;go_ret;exact⟨v2,rfl,by simpa using kM,rd2,k1.trans k2⟩
   ·have hhi:s.hi<b:=by omega
    clear hlo;go_enter func25,ntmps25;go_wp2_with fail;refine(GG base rb ro s v L _ rd own (by omega) hrb hb).mono ?_;rintro e w1 ⟨v1,rfl,jR,NH,k1⟩;have hb':base≤w1.heap.size:=by have:=k1.size;omega
    have hle1:qb w1:=hle.kl k1 (by omega) (own_ne own (by omega)) (by omega);go_wp2_with fail;refine(Bc base rb ro s.fin.1 b v1 (L++s.fin.2) _ NH hb0 hb1 hle1 hrb jR hfl hb').mono ?_;rintro e w2 ⟨v2,rfl,kM,rd2,k2⟩;go_wp2_with fail;go_ret;exact⟨v2,rfl,by simpa using kM,rd2,k1.trans k2⟩
  ·have e:s.take b=s.join b:=by simp only[RS.take,hm,hlo,ou]
   rw[e];have h1:¬b<s.lo:=by omega
   have h2:¬s.hi<b:=by omega
   clear e hlo;have Hm:Hid (s.m≠0):=hm;clear hm;go_enter func25,ntmps25;go_wp2_with fail;refine(Np base rb ro s b v L _ rd hs Hm.o hb0 hb1 own (by omega) hrb hb).mono ?_;rintro e w1 ⟨v1,rfl,jR,NH,k1⟩;go_wp2_with fail;go_ret;exact⟨v1,rfl,jR,NH,k1⟩
theorem Nb(c:Int)(w:World):Calls prog 97 #[.int .i64 c] w fun e w'=>e= .returned (.bool (fe c))∧w=w':=by
 by_cases c1:64≤c
 ·by_cases c2:c≤126
  ·have e:fe c=true:=by simp[fe,c1,c2]
   rw[e];clear e;go_enter func97,ntmps97;go_wp2;go_ret;exact⟨rfl,rfl⟩
  ·have e:fe c=false:=by simp[fe,c2]
   have d2:decide (c≤126)=false:=by simp[c2]
   rw[e];clear e;go_enter func97,ntmps97;go_wp2;go_ret;exact⟨rfl,rfl⟩
 ·have e:fe c=false:=by simp[fe,c1]
  have d2:decide (64≤c)=false:=by simp[c1]
  rw[e];clear e;go_enter func97,ntmps97;go_wp2;go_ret;exact⟨rfl,rfl⟩
theorem ym(c:Int)(t:Bool)(w:World)(h:fe c=t):Calls prog 97 #[.int .i64 c] w fun e w'=>e= .returned (.bool t)∧w=w':=h▸Nb c w
theorem Nu(c:Int)(w:World):Calls prog 95 #[.int .i64 c] w fun e w'=>e= .returned (.bool (mU c))∧w=w':=by
 by_cases h0:c=63
 ·have e:mU c=true:=by simp[mU,h0]
  rw[e];clear e;subst h0;go_enter func95,ntmps95;go_wp2;go_ret;exact⟨rfl,rfl⟩
 ·by_cases h1:c=62
  ·have e:mU c=true:=by simp[mU,h1]
   rw[e];clear e;subst h1;clear h0;go_enter func95,ntmps95;go_wp2;go_ret;exact⟨rfl,rfl⟩
  ·by_cases h2:c=61
   ·have e:mU c=true:=by simp[mU,h2]
    rw[e];clear e;subst h2;clear h0 h1;go_enter func95,ntmps95;go_wp2;go_ret;exact⟨rfl,rfl⟩
   ·by_cases h3:c=60
    ·have e:mU c=true:=by simp[mU,h3]
     rw[e];clear e;subst h3;clear h0 h1 h2;go_enter func95,ntmps95;go_wp2;go_ret;exact⟨rfl,rfl⟩
    ·have e:mU c=false:=by simp[mU,h0,h1,h2,h3]
     have b0:(c==63)=false:=by simp[h0]
     have b1:(c==62)=false:=by simp[h1]
     have b2:(c==61)=false:=by simp[h2]
     have b3:(c==60)=false:=by simp[h3]
     rw[e];clear e h0 h1 h2 h3;go_enter func95,ntmps95;go_wp2;go_ret;exact⟨rfl,rfl⟩
theorem Ho(c:Int)(t:Bool)(w:World)(h:mU c=t):Calls prog 95 #[.int .i64 c] w fun e w'=>e= .returned (.bool t)∧w=w':=h▸Nu c w
theorem Sr(c:Int)(w:World):Calls prog 163 #[.int .i64 c] w fun e w'=>e= .returned (.bool (lC c))∧w=w':=by
 by_cases h0:c=93
 ·have e:lC c=true:=by simp[lC,h0]
  rw[e];clear e;subst h0;go_enter func163,ntmps163;go_wp2;go_ret;exact⟨rfl,rfl⟩
 ·by_cases h1:c=80
  ·have e:lC c=true:=by simp[lC,h1]
   rw[e];clear e;subst h1;clear h0;go_enter func163,ntmps163;go_wp2;go_ret;exact⟨rfl,rfl⟩
  ·by_cases h2:c=88
   ·have e:lC c=true:=by simp[lC,h2]
    rw[e];clear e;subst h2;clear h0 h1;go_enter func163,ntmps163;go_wp2;go_ret;exact⟨rfl,rfl⟩
   ·by_cases h3:c=94
    ·have e:lC c=true:=by simp[lC,h3]
     rw[e];clear e;subst h3;clear h0 h1 h2;go_enter func163,ntmps163;go_wp2;go_ret;exact⟨rfl,rfl⟩
    ·by_cases h4:c=95
     ·have e:lC c=true:=by simp[lC,h4]
      rw[e];clear e;subst h4;clear h0 h1 h2 h3;go_enter func163,ntmps163;go_wp2;go_ret;exact⟨rfl,rfl⟩
     ·have e:lC c=false:=by simp[lC,h0,h1,h2,h3,h4]
      have b0:(c==93)=false:=by simp[h0]
      have b1:(c==80)=false:=by simp[h1]
      have b2:(c==88)=false:=by simp[h2]
      have b3:(c==94)=false:=by simp[h3]
      have b4:(c==95)=false:=by simp[h4]
      rw[e];clear e h0 h1 h2 h3 h4;go_enter func163,ntmps163;go_wp2;go_ret;exact⟨rfl,rfl⟩
theorem Az(c:Int)(t:Bool)(w:World)(h:lC c=t):Calls prog 163 #[.int .i64 c] w fun e w'=>e= .returned (.bool t)∧w=w':=h▸Sr c w
theorem Oe(mb mo:Nat)(s:MS)(c:Int)(w:World)(h:kS w mb mo s):
 Calls prog 53 #[.pointer (some ⟨mb,mo,none⟩),.int .i64 c] w fun e w'=>e= .returned (.tuple #[])∧kS w' mb mo (s.skip c)∧Km mb mo w w':=by
 by_cases h1:c=7
 ·have e:s.skip c= .zero:=by simp[MS.skip,h1]
  rw[e];clear e;subst h1;go_enter func53,ntmps53;go_wp2_with (refine mV _ rfl (.tmp 12) (.tmp 11) rfl mb mo s .zero rfl _ rfl ?a1 jb h ?_)
  case a1=>rfl
  intro u hm hk _;go_wp2_with fail;go_end0;exact⟨rfl,hm,hk⟩
 ·by_cases h2:c=156
  ·have e:s.skip c= .zero:=by simp[MS.skip,h2]
   rw[e];clear e;subst h2;go_enter func53,ntmps53;go_wp2_with (refine mV _ rfl (.tmp 12) (.tmp 11) rfl mb mo s .zero rfl _ rfl ?a1 jb h ?_)
   case a1=>rfl
   intro u hm hk _;go_wp2_with fail;go_end0;exact⟨rfl,hm,hk⟩
  ·have e:s.skip c=s:=by simp[MS.skip,h1,h2]
   rw[e];clear e;have b1:(c==7)=false:=by simp[h1]
   have b2:(c==156)=false:=by simp[h2]
   clear h1 h2;go_enter func53,ntmps53;go_wp2_with fail;go_end0;exact⟨rfl,h,Km.refl _ _ _⟩
end Go.Proofs.YtheibfffilomcaaGreatDoor
