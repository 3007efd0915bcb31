import Derived.Test.YtheibfffilomcaaGreatDoorTmaU
import Derived.Test.YtheibfffilomcaaGreatDoorRwfU
import Derived.Test.YtheibfffilomcaaGreatDoorEqcU
import Derived.Test.YtheibfffilomcaaGreatDoorUkU
import Derived.Test.YtheibfffilomcaaGreatDoorQaU
import Derived.Test.YtheibfffilomcaaGreatDoorRwaU
import Derived.Test.YtheibfffilomcaaGreatDoorVqU
set_option linter.all false
set_option maxRecDepth 100000
set_option maxHeartbeats 2000000
namespace Go.Proofs.YtheibfffilomcaaGreatDoor
open Go.RowKit Go.Proofs.Tryz
variable {w u u' U U':World} {a a':Option Addr} {M K:Int} {bv:Value} {E:List (List Int)} {L:List Int} {Q:Exit→Act→World→Prop} {g:Nat} {ops:Array Oper} {rest:List Oper}
theorem Mf(m:RM)(c:Int):(m.take c).1.body=[]∨(m.take c).1.body=m.body∨(m.take c).1.body=m.body++[c]:=by
 unfold RM.take RM.esc
 (repeat' split)<;>simp[RM.zero]
theorem Rw(m:RM)(c:Int):(m.take c).2.length=21:=by
 unfold RM.take RM.esc
 (repeat' split)<;>first|rfl|exact Io _ _
theorem DY(m:RM)(l r:List Int):m.evs (l++r)=(((m.evs l).1.evs r).1,(m.evs l).2++((m.evs l).1.evs r).2):=by
 induction l generalizing m with
 |nil=>simp[RM.evs]
 |cons b l ih=>simp[RM.evs,ih,f_]
theorem Vk(m:RM)(l:List Int)(c:Int):m.evs (l++[c])=(((m.evs l).1.take c).1,(m.evs l).2++(if((m.evs l).1.take c).2.getD 0 0≠0 then[((m.evs l).1.take c).2]else[])):=by rw[DY];simp[RM.evs]
theorem Wl(m:RM)(n:Nat)(hb:∀x∈m.body,0≤x∧x≤10000000)(hn:m.body.length≤n)(l:List Int)(hl:∀c∈l,0≤c∧c≤10000000):
 (∀x∈(m.evs l).1.body,0≤x∧x≤10000000)∧(m.evs l).1.body.length≤n+l.length∧(∀e∈(m.evs l).2,e.length=21)∧(m.evs l).2.length≤l.length:=by
 induction l generalizing m n with
 |nil=>exact⟨hb,hn,fun e he=>by simp[RM.evs]at he,by simp[RM.evs]⟩
 |cons c l ih=>
  have hc:=hl c (by simp);have hb':∀x∈(m.take c).1.body,0≤x∧x≤10000000:=by
   intro x hx;rcases Mf m c with e|e|e<;>rw[e]at hx
   ·simp at hx
   ·exact hb x hx
   ·rcases nM.1 hx with hx|hx
    ·exact hb x hx
    ·simp at hx;omega
  have hn':(m.take c).1.body.length≤n+1:=by
   rcases Mf m c with e|e|e<;>rw[e]
   ·simp
   ·omega
   ·simp;omega
  obtain⟨a1,a2,a3,a4⟩:=ih (m.take c).1 (n+1) hb' hn' (fun x hx=>hl x (by simp[hx]));refine⟨a1,by simp only[RM.evs,fE];omega,fun e he=>?_,?_⟩
  ·simp only[RM.evs]at he;rcases nM.1 he with he|he
   ·split at he
    ·simp at he;rw[he];exact Rw m c
    ·simp at he
   ·exact a3 e he
  ·simp only[RM.evs,fU,fE];split
   ·simp;omega
   ·simp;omega
theorem yM(s:MS)(c:Int)(h:(s.dJ c).2.2=true):(s.dJ c).2.1.getD 0 0≠0:=by
 unfold MS.dJ at h ⊢;by_cases a:48≤c∧c≤57
 ·rw[ak a]at h;simp at h
 ·rw[ai a]at h ⊢;by_cases b:c=59
  ·rw[ak b]at h;simp at h
  ·rw[ai b]at h ⊢;by_cases d:fe c=true
   ·rw[ak d];simp[MS.nA]
   ·rw[ai d]at h;simp at h
theorem FD(s:MS)(c:Int)(h:(s.eZ c).2.2=true):(s.eZ c).2.1.getD 0 0≠0:=by
 unfold MS.eZ at h ⊢;by_cases a:c=91
 ·rw[ak a]at h;simp at h
 ·rw[ai a]at h ⊢;by_cases b:lC c=true
  ·rw[ak b]at h;simp at h
  ·rw[ai b]at h ⊢;by_cases d:c≤47
   ·rw[ak d]at h;simp at h
   ·rw[ai d]at h ⊢;by_cases f:c≤126
    ·rw[ak f];simp
    ·rw[ai f]at h;simp at h
theorem KV(s:MS)(c:Int)(h:(s.take c).2.2=true):(s.take c).2.1.getD 0 0≠0:=by
 unfold MS.take at h ⊢;split at h
 ·simp at h
 ·split at h
  ·simp at h
  ·split at h
   ·simp at h
   ·split at h
    ·simp_all
    ·split at h
     ·rename_i h1 h2 h3 h4 h5;rw[ai h1,ai h2,ai h3,ai h4,ak h5];unfold MS.dm at h ⊢;split at h
      ·simp_all
      ·split at h
       ·rename_i q1 q2;rw[ai q1,ak q2];exact FD s c h
       ·split at h
        ·rename_i q1 q2 q3;rw[ai q1,ai q2,ak q3];split at h
         ·simp at h
         ·rename_i q4;rw[ai q4];exact yM _ c h
        ·split at h
         ·rename_i q1 q2 q3 q4;rw[ai q1,ai q2,ai q3,ak q4];exact yM s c h
         ·split at h
          ·split at h<;>simp at h
          ·simp at h
     ·simp at h
theorem M_{s:MS}{m:RM}(h:I9 s m)(l:List Int):(m.evs l).2=(s.evs l).2:=by
 induction l generalizing s m with
 |nil=>rfl
 |cons c l ih=>
  obtain⟨h1,h2⟩:=KU h c;simp only[RM.evs,MS.evs];rw[ih h1,h2]
  congr 1
  cases hk:(s.take c).2.2 with
  |true=>rw[ak rfl,ak (KV s c hk),ak rfl]
  |false=>simp only[Bool.false_eq_true,ou];rw[ai (fun h=>h rfl)]
theorem EN(l:List Int):(RM.zero.evs l).2=UL l:=M_ (Or.inl ⟨rfl,rfl⟩) l
theorem sO{o:Oper}{a:Act}(u:World)(hgd:o.guard=none)(x:Operand)(ho:o.op= .load 117 x)(g:Nat)(mv:Array Value)(hx:a.eval x= .pointer (some ⟨g,0,none⟩))(hmv:mv.size=3)(t:TypeId)(fr:Nat × Nat)(hg:u.heap[g]? =some (.cells mv t fr))(h:wpList prog ops Q rest (a.put o.dst (.agg mv)) u):wpList prog ops Q (o::rest) a u:=
 fC hgd 117 x ho g hx t mv fr _ hg underlying117 rfl (by rw[hmv];exact tT) h
theorem wm{o:Oper}{a:Act}(u:World)(hgd:o.guard=none)(x y:Operand)(ho:o.op= .store 117 x y)(g:Nat)(old mv:Array Value)(hx:a.eval x= .pointer (some ⟨g,0,none⟩))(hy:a.eval y= .agg mv)(hmv:mv.size=3)(hma:mv.all (·.oneCell')=true)(t:TypeId)(hg:u.heap[g]? =some (.cells old t (0,0)))(hold:old.size=3)(h:∀u',u'.heap[g]? =some (.cells mv t (0,0))→u.grownBy u' (some g)→u'.heap.size=u.heap.size→wpList prog ops Q rest (a.put o.dst undef) u'):wpList prog ops Q (o::rest) a u:=by
 refine wpList_store_row hgd 117 x y ho g mv hx hy t old hg (by rw[hmv];exact tT) (by rw[hmv,hold]) hma ?_;exact h _ (setRow_heap u g _ _ t _ hg) ⟨rfl,rfl,rfl,by simp,fun k _ hk=>setRow_other u g k _ (fun e=>hk (by simp[e]))⟩ (by simp)
structure RX (w:World) (M K:Int) (bv v:Value) (E:List (List Int)) (a:Option Addr) (L:List Int) (u:World):Prop where
 Ap:u.heap[w.heap.size]? =some (.cells (mA M K bv) 117 (0,0))
 ev:uJ u (w.heap.size+1) v E
 sl:lI u a L
 ap:∀b o,a=some ⟨b,o,none⟩→w.heap.size+1≤b∧b<u.heap.size∧some b≠v.ownBlock
 iB:Below w.heap.size w u
theorem RX.size{v:Value}(h:RX w M K bv v E a L u):w.heap.size+1≤u.heap.size:=
 (wK.1 h.Ap).1
theorem RX.next{v:Value}(h:RX w M K bv v E a L u)(b:Below u.heap.size u u'):RX w M K bv v E a L u':=
 ⟨(b.block _ h.size).trans h.Ap,h.ev.below b,h.sl.below b,(fun x y e=>by have:=h.ap x y e;exact⟨this.1,fJ this.2.1 b.size,this.2.2⟩),h.iB.trans (b.mono (by have:=h.size;omega))⟩
theorem RX.drew{v:Value}(h:RX w M K bv v E a L u):RX w M K bv v E a L {u with drawn:=u.drawn+1}:=by have b:Below u.heap.size u {u with drawn:=u.drawn+1}:=⟨rfl,rfl,rfl,bN _,fun _ _=>rfl⟩;exact h.next b
theorem RX.body{v:Value}{L':List Int}(h:RX w M K bv v E a L u)(b:Below u.heap.size u u')(sl:lI u' a' L')(hn:∀b o,a'=some ⟨b,o,none⟩→a'=a∨(u.heap.size≤b∧b<u'.heap.size)):RX w M K bv v E a' L' u':=by
 have h':=h.next b;refine⟨h'.Ap,h'.ev,sl,fun b o e=>?_,h'.iB⟩;rcases hn b o e with rfl|⟨hb,hb'⟩
 ·exact h'.ap b o e
 ·refine⟨by have:=h.size;omega,hb',fun hv=>?_⟩;have:=(wN h.ev b hv.symm).2;omega
theorem Vg{g1 g2 b:Nat}{e:TypeId}{sz:Nat}{v:Value}{n:Nat}{xs:List Value}(h:w.ownsRow b e sz v n xs)(t:Two g1 g2 w u)(h1:some g1≠v.ownBlock)(h2:some g2≠v.ownBlock):u.ownsRow b e sz v n xs:=by
 refine⟨h.1,?_⟩;rcases h.2 with q|⟨g,cap,cur,rfl,hbg,hg,r⟩
 ·exact Or.inl q
 ·exact Or.inr ⟨g,cap,cur,rfl,hbg,(t.block g (fun e=>h1 (by rw[←e];rfl)) (fun e=>h2 (by rw[←e];rfl))).trans hg,r⟩
structure NB (w:World) (g:Nat) (v:Value) (a:Option Addr) (o:Obj) (U:World):Prop where
 obj:U.heap[g]? =some o
 lo:w.heap.size+1≤g
 nv:some g≠v.ownBlock
 na:∀b o,a=some ⟨b,o,none⟩→b≠g
theorem NB.lt{w U:World}{g:Nat}{v:Value}{a:Option Addr}{o:Obj}(h:NB w g v a o U):g<U.heap.size:=(wK.1 h.obj).1
theorem NB.next{v:Value}{o:Obj}(h:NB w g v a o U)(b:Below U.heap.size U U'):NB w g v a o U':=⟨(b.block g h.lt).trans h.obj,h.lo,h.nv,h.na⟩
theorem NB.body{v:Value}{o:Obj}(h:NB w g v a o U)(b:Below U.heap.size U U')(hn:∀b o,a'=some ⟨b,o,none⟩→a'=a∨(U.heap.size≤b∧b<U'.heap.size)):NB w g v a' o U':=by
 refine⟨(b.block g h.lt).trans h.obj,h.lo,h.nv,fun x y e=>?_⟩;rcases hn x y e with rfl|⟨hx,_⟩
 ·exact h.na x y e
 ·have:=h.lt;omega
theorem NB.new{v:Value}{o:Obj}(h:RX w M K bv v E a L U)(hg:g=U.heap.size)(ho:U'.heap[g]? =some o):NB w g v a o U':=by
 subst hg;refine⟨ho,h.size,fun e=>?_,fun b p e=>?_⟩
 ·have:=(wN h.ev _ e.symm).2;omega
 ·have:=(h.ap b p e).2.1;omega
theorem RX.two{v:Value}{g1 g2:Nat}{o1 o2:Obj}(h:RX w M K bv v E a L u)(t:Two g1 g2 u u')(n1:NB w g1 v a o1 u)(n2:NB w g2 v a o2 u):RX w M K bv v E a L u':=by have l1:=n1.lo;have l2:=n2.lo;refine⟨(t.block _ (by omega) (by omega)).trans h.Ap,Vg h.ev t n1.nv n2.nv,h.sl.blk fun b o e=>t.block b (n1.na b o e) (n2.na b o e),fun b o e=>?_,t.below h.iB (by omega) (by omega)⟩;rw[t.size];exact h.ap b o e
theorem RX.Ny{M' K':Int}{bv' v:Value}(h:RX w M K bv v E a L u)(g:u'.heap[w.heap.size]? =some (.cells (mA M' K' bv') 117 (0,0)))(r:u.grownBy u' (some w.heap.size)):RX w M' K' bv' v E a L u':=by
 have hz:=h.size;refine⟨g,?_,?_,fun b o e=>?_,h.iB.grown r (by omega) (fun k e=>by simp at e;omega)⟩
 ·refine xU h.ev r ?_;cases hv:v.ownBlock with
  |none=>exact Or.inl rfl
  |some j=>right;have:=(wN h.ev j hv).1;simp;omega
 ·exact h.sl.blk fun b o e=>r.block b (h.ap b o e).2.1 (fun q=>by have:=(h.ap b o e).1;simp at q;omega)
 ·have:=h.ap b o e;exact⟨this.1,fJ this.2.1 r.size,this.2.2⟩
theorem RX.app{v v':Value}{E':List (List Int)}(h:RX w M K bv v E a L u)(ev:uJ u' (w.heap.size+1) v' E')(r:u.grownBy u' v.ownBlock)(hb:v'.ownBlock=v.ownBlock∨∃k,v'.ownBlock=some k∧u.heap.size≤k):RX w M K bv v' E' a L u':=by
 have hz:=h.size;refine⟨(r.block _ hz (fun e=>by have:=(wN h.ev _ e.symm).1;omega)).trans h.Ap,ev,h.sl.blk fun b o e=>r.block b (h.ap b o e).2.1 (h.ap b o e).2.2,fun b o e=>?_,h.iB.grown r (by omega) (fun k e=>by have:=(wN h.ev k e).1;omega)⟩;have:=h.ap b o e;refine⟨this.1,fJ this.2.1 r.size,fun q=>?_⟩;rcases hb with hb|⟨k,hk,hle⟩
 ·rw[hb]at q;exact this.2.2 q
 ·rw[hk]at q;simp at q;omega
theorem Lc{o:Oper}{a:Act}{K:Act→World→Prop}(ho:o.op= .alloc 117)(h:∀g u',g=u.heap.size→u'.heap[g]? =some (.cells (mA 0 0 (.slice none 0 0)) 117 (0,0))→Below u.heap.size u u'→K (a.put o.dst (.pointer (some ⟨g,0,none⟩))) u'):Oper.wp prog o a u K Q:=by
 have hz:(zeroValue 117).run prog u= .ok (.agg (mA 0 0 (.slice none 0 0))) u:=by kernel_rfl
 have H:=h u.heap.size (u.alloc (.cells (mA 0 0 (.slice none 0 0)) 117)) rfl (bV _ _) ((dU _ _).alloc (bN _) _);unfold Oper.wp execOp;simp only[ho,Instr.alloc,jV,hz,jU,mK];exact H
theorem Lb{o:Oper}{a:Act}{K:Act→World→Prop}(ho:o.op= .alloc 46)(h:∀g u',g=u.heap.size→u'.heap[g]? =some (.cells (aA aO) 46 (0,0))→Below u.heap.size u u'→K (a.put o.dst (.pointer (some ⟨g,0,none⟩))) u'):Oper.wp prog o a u K Q:=by
 have H:=h u.heap.size (u.alloc (.cells (aA aO) 46)) rfl (bV _ _) ((dU _ _).alloc (bN _) _);unfold Oper.wp execOp;simp only[ho,Instr.alloc,jV,SI,jU,mK];exact H
theorem OD{o:Oper}{a:Act}{K:Act→World→Prop}(i j:Nat)(ho:o.op= .call {callee:=.value (.func 59),args:=#[.tmp i,.tmp j],argTypes:=#[117,3]})(p q:Value)(hx:a.eval (.tmp i)=p)(hy:a.eval (.tmp j)=q)(R:Value→World→Prop)(hc:Calls prog 59 #[p,q] u fun e w'=>∃v,e= .returned v∧R v w')(h:∀v w',R v w'→K (a.put o.dst v) w'):Oper.wp prog o a u K Q:=by
 have hx':a.tmps[i]?.getD undef=p:=by simpa[Act.eval]using hx
 have hy':a.tmps[j]?.getD undef=q:=by simpa[Act.eval]using hy
 clear hx hy;unfold Oper.wp execOp;simp only[ho];go_simp;refine hc.mono ?_;rintro e w' ⟨v,rfl,hr⟩;exact h v w' hr
structure jC (ev:List Int):Prop where
 len:ev.length=21
 ct:∃k:Nat,k≤16∧ev.getD 4 0=(k:Int)
 hi:∀i,(ev.drop 5).getD i 0≤70000
 zz:∀i,(ev.getD 4 0).toNat≤i→(ev.drop 5).getD i 0=0
theorem yU(i:Nat):z16.getD i 0=0:=by unfold z16 List.getD;rw[CW];split<;>rfl
theorem GN(a b c d:Int):jC ([a,b,c,d,0]++z16):=
 ⟨rfl,⟨0,by omega,rfl⟩,fun i=>by show z16.getD i 0≤_;rw[yU];omega,fun i _=>by show z16.getD i 0=_;rw[yU]⟩
theorem vP(l:List Int)(k i:Nat)(v:Int):(l.set k v).getD i 0=if i=k∧k<l.length then v else l.getD i 0:=by
 unfold List.getD;rw[xX];by_cases h:k=i
 ·subst h;by_cases h2:k<l.length
  ·rw[ak rfl,ak h2,ak ⟨rfl,h2⟩];rfl
  ·rw[ak rfl,ai h2,ai (fun x=>h2 x.2),wM (by omega)]
 ·rw[ai h,ai (fun x=>h x.1.symm)]
theorem L8(mk c:Int):∀(r:List Int) (v:Int) (al:Nat) (ps:List Int) (ct:Int),1≤al→ps.length=16→v≤65535→(∀i,ps.getD i 0≤65535)→(∀i,al-1≤i→ps.getD i 0=0)→(16<al→ct=16)→jC (bZ mk c r v al ps ct)∧(bZ mk c r v al ps ct).getD 0 0≠1
 | [],v,al,ps,ct,h1,hl,hv,hp,hz,hc=>by
   unfold bZ;by_cases h:al≤16
   ·rw[ak h];refine⟨⟨by simp[hl],⟨al,h,rfl⟩,fun i=>?_,fun i hi=>?_⟩,by show(4:Int)≠1;decide⟩
    ·show(ps.set (al-1) v).getD i 0≤_;rw[vP];have:=hp i;split<;>omega
    ·show(ps.set (al-1) v).getD i 0=_;have hi':al≤i:=by have e:([4,0,mk,c,(al:Int)]++ps.set (al-1) v).getD 4 0=(al:Int):=rfl;rw[e]at hi;omega
     rw[vP,ai (by omega)];exact hz i (by omega)
   ·rw[ai h,hc (by omega)];refine⟨⟨by simp[hl],⟨16,by omega,rfl⟩,fun i=>?_,fun i hi=>?_⟩,by show(4:Int)≠1;decide⟩
    ·show ps.getD i 0≤_;have:=hp i;omega
    ·show ps.getD i 0=_;have hi':16≤i:=hi;unfold List.getD;rw[wM (by omega)];rfl
 |x::r,v,al,ps,ct,h1,hl,hv,hp,hz,hc=>by
  unfold bZ;by_cases h59:x=59
  ·rw[ak h59];by_cases h:al≤16
   ·rw[ak h];refine L8 mk c r (-1) (al+1) (ps.set (al-1) v) (al:Int) (by omega) (by simp[hl]) (by omega) (fun i=>?_) (fun i hi=>?_) (fun _=>by omega)
    ·rw[vP];have:=hp i;split<;>omega
    ·rw[vP,ai (by omega)];exact hz i (by omega)
   ·rw[ai h];exact L8 mk c r (-1) (al+1) ps ct (by omega) hl (by omega) hp (fun i hi=>hz i (by omega)) (fun _=>hc (by omega))
  ·rw[ai h59];by_cases hd:x<48∨57<x
   ·rw[ak hd];exact⟨GN 0 0 0 0,by show(0:Int)≠1;decide⟩
   ·rw[ai hd];exact L8 mk c r _ al ps ct h1 hl (by omega) hp hz hc
theorem VZ(b:List Int)(c:Int):jC (dR b c)∧(dR b c).getD 0 0≠1:=by
 have k:∀mk r,jC (bZ mk c r (-1) 1 z16 1)∧(bZ mk c r (-1) 1 z16 1).getD 0 0≠1:=fun mk r=>L8 mk c r (-1) 1 z16 1 (by omega) rfl (by omega) (fun i=>by rw[yU];omega) (fun i _=>yU i) (fun h=>by omega);cases b with
 |nil=>exact k _ _
 |cons x r=>
  by_cases h:yu x=true
  ·have e:dR (x::r) c=bZ x c r (-1) 1 z16 1:=by simp only[dR];rw[ak h]
   rw[e];exact k _ _
  ·have e:dR (x::r) c=bZ 0 c (x::r) (-1) 1 z16 1:=by simp only[dR];rw[ai h]
   rw[e];exact k _ _
theorem Ng(m:RM)(c:Int):jC (m.take c).2∧((m.take c).2.getD 0 0=1→(m.take c).2.getD 1 0=c):=by
 have n0:jC aO∧(aO.getD 0 0=1→aO.getD 1 0=c):=⟨GN 0 0 0 0,fun h=>absurd h (by decide)⟩;have n2:jC ([2,c,0,0,0]++z16)∧(([2,c,0,0,0]++z16).getD 0 0=1→([2,c,0,0,0]++z16).getD 1 0=c):=⟨GN _ _ _ _,fun _=>rfl⟩;have n1:jC ([1,c,0,0,0]++z16)∧(([1,c,0,0,0]++z16).getD 0 0=1→([1,c,0,0,0]++z16).getD 1 0=c):=⟨GN _ _ _ _,fun _=>rfl⟩;have n3:jC ([3,0,m.mr,c,0]++z16)∧(([3,0,m.mr,c,0]++z16).getD 0 0=1→([3,0,m.mr,c,0]++z16).getD 1 0=c):=⟨GN _ _ _ _,fun h=>absurd (show(3:Int)=1 from h) (by decide)⟩;have n4:jC (dR m.body c)∧((dR m.body c).getD 0 0=1→(dR m.body c).getD 1 0=c):=⟨(VZ _ _).1,fun h=>absurd h (VZ _ _).2⟩;unfold RM.take RM.esc
 (repeat' split)<;>first|exact n0|exact n1|exact n2|exact n3|exact n4
def Tu (ev:List Int):Prop:=jC ev∧(ev.getD 0 0=1→zh (ev.getD 1 0))
theorem XN(l:List Int):∀m:RM,(∀c∈l,zh c)→∀ev∈(m.evs l).2,Tu ev:=by
 induction l with
 |nil=>intro m _ ev he;simp[RM.evs]at he
 |cons c l ih=>
  intro m hl ev he;have k:=Ng m c;simp only[RM.evs,nM]at he;rcases he with he|he
  ·split at he
   ·rw[jg]at he;subst he;exact⟨k.1,fun h=>by rw[k.2 h];exact hl c (by simp)⟩
   ·cases he
  ·exact ih _ (fun x hx=>hl x (by simp[hx])) ev he
theorem Mh(l:List Int):∀s:RS,s.Sc→(∀b∈l,0≤b∧b<256)→∀c∈(s.run l).2,zh c:=by
 induction l with
 |nil=>intro s _ _ c hc;simp[RS.run]at hc
 |cons b l ih=>
  intro s hs hl c hc;have k:=Ml hs (hl b (by simp)).1 (hl b (by simp)).2;have hc':c∈(s.take b).2++((s.take b).1.run l).2:=hc;rcases nM.1 hc' with h|h
  ·exact k.2 c h
  ·exact ih _ k.1 (fun x hx=>hl x (by simp[hx])) c h
def qd (l:List Int):List (List Int):=(RM.zero.evs (nU false l)).2
theorem GI(l:List Int)(hl:∀b∈l,0≤b∧b<256):∀ev∈qd l,Tu ev:=by unfold qd;rw[oL];exact XN _ _ (Mh l .zero RS.Sc.zero hl)
theorem EO(l r:List Int):∃E,qd (l++r)=qd l++E:=by
 unfold qd;rw[oL,oL];have h:(RS.zero.run (l++r)).2=(RS.zero.run l).2++((RS.zero.run l).1.run r).2:=by
  generalize RS.zero=s;induction l generalizing s with
  |nil=>rfl
  |cons b l ih=>show(s.take b).2++((s.take b).1.run (l++r)).2=((s.take b).2++((s.take b).1.run l).2)++_;rw[ih,f_];rfl
 rw[h,DY];exact⟨_,rfl⟩
section
open DT
theorem scI(d:DT)(f:TS→TS):(d.sc f).ids=d.ids:=rfl
theorem VB(d:DT):d.IM.ids=d.ids:=rfl
theorem YT(d:DT)(S:cz):(d.setCur S).ids=d.ids:=(d.sD S).2.2
theorem af6(d:DT)(r:bY):(d.put r).ids=d.ids:=YT d _
theorem Ay(d:DT)(a n:Int):(d.fI a n).ids=d.ids:=YT d _
theorem LV(d:DT):d.down.ids=d.ids:=by unfold DT.down;(repeat' split)<;>first|exact Ay _ _ _|rfl
theorem upI(d:DT):d.up.ids=d.ids:=by unfold DT.up;(repeat' split)<;>first|exact Ay _ _ _|rfl
theorem Qe(d:DT)(c:Int):(d.control c).ids=d.ids:=by
 unfold DT.control
 (repeat' split)<;>first|rfl|(simp only[scI,VB,LV])|exact LV _
theorem VV(d:DT)(c:Int):(d.bare c).ids=d.ids:=by
 unfold DT.bare DT.sj DT.fresh
 (repeat' split)<;>first|rfl|(simp only[scI,VB,LV,upI])
theorem UJ(d:DT)(m c:Int):(d.escape m c).ids=d.ids:=by
 unfold DT.escape
 (repeat' split)<;>first|rfl|exact VV _ _|(simp only[scI,VB,VV])
theorem toI(d:DT)(r c:Int):(d.to r c).ids=d.ids:=rfl
theorem YQ(d:DT)(f n m:Int):(d.moves f n m).ids=d.ids:=by
 unfold DT.moves DT.mv DT.to
 (repeat' split)<;>rfl
theorem Gs(d:DT)(a b:Nat):(d.cleared a b).ids=d.ids:=YT d _
theorem XK(d:DT)(f h:Int):(d.erase f h).ids=d.ids:=by
 unfold DT.erase
 (repeat' split)<;>first|rfl|exact Gs _ _ _|(simp only[Gs])
theorem acM(d:DT)(n:Int):(d.rows n).ids=d.ids:=by unfold DT.rows;split<;>simp only[VB,scI,Ay]
theorem Vj(d:DT)(a b:Int):(d.region a b).ids=d.ids:=by
 unfold DT.region;dsimp only;by_cases h:a<(if b≤0∨(d.t.rows:Int)<b then(d.t.rows:Int)else b)
 ·rw[ak h];rfl
 ·rw[ai h]
theorem acK(l:List Int):∀d:DT,(d.qf l).ids=d.ids:=by
 induction l with
 |nil=>intro d;rfl
 |cons x l ih=>intro d;unfold DT.qf;exact ih _
theorem afm{p:Prop}[Decidable p]{a b:DT}{i:Int}(ha:a.ids=i)(hb:b.ids=i):(if p then a else b).ids=i:=by split<;>assumption
theorem aa5(d:DT)(f n z b:Int)(ps:List Int):(d.edit f n z b ps).ids=d.ids:=by
 unfold DT.edit
 repeat' (refine afm ?_ ?_)
 all_goals first|rfl|exact af6 _ _|exact acM _ _|exact Ay _ _ _|exact XK _ _ _|exact Vj _ _ _|exact acK _ _
theorem Oc(d:DT)(f:Int)(ps:List Int)(ct:Nat):(d.sequence f ps ct).ids=d.ids:=by
 unfold DT.sequence
 (repeat' split)<;>first|exact YQ _ _ _ _|exact aa5 _ _ _ _ _ _
theorem ND(d:DT)(n:Int)(on:Bool):(d.jr n on).ids=d.ids:=by
 unfold DT.jr
 (repeat' split)<;>first|rfl|(simp only[toI,scI])
theorem NF(on:Bool)(l:List Int):∀d:DT,(d.privates on l).ids=d.ids:=by
 induction l with
 |nil=>intro d;rfl
 |cons x l ih=>intro d;unfold DT.privates;rw[ih,ND]
theorem Md(d:DT)(c:Int)(wd:Nat):(d.fo c wd).ids≤d.ids+1:=by
 unfold DT.fo;have h:((d.nI wd).ED c wd).ids≤d.ids+1:=by unfold DT.ED;show(if wd=2 then(d.nI wd).ids+1 else(d.nI wd).ids)≤_;rw[(d.EW wd).2.2];split<;>omega
 unfold DT.rG;split<;>exact h
theorem YR(d:DT)(c:Int)(wd:Nat):(d.print c wd).ids≤d.ids+1:=by
 unfold DT.print
 (repeat' split)
 ·omega
 ·have:=Md d.pO (d.abs.spelt c) wd;have e:d.pO.ids=d.ids:=by unfold DT.pO;rw[LV]
  omega
 ·omega
 ·exact Md _ _ _
theorem aa1(d:DT)(ev:List Int):(d.does ev).ids≤d.ids+1:=by
 unfold DT.does
 (repeat' split)
 ·exact YR _ _ _
 ·rw[Qe];omega
 ·rw[UJ];omega
 ·rw[Oc];omega
 ·rw[NF];omega
 ·omega
 ·omega
end
def DT.jw (d:DT) (E:List (List Int)):DT:=E.foldl DT.does d
theorem DT.EK(d:DT)(E:List (List Int))(ev:List Int):d.jw (E++[ev])=(d.jw E).does ev:=by simp[DT.jw]
theorem DT.Bn(E:List (List Int)):∀{d:DT},d.Ok→(∀ev∈E,Tu ev)→(d.jw E).Ok∧(d.jw E).abs=E.foldl TS.take d.abs:=by
 induction E with
 |nil=>intro d h _;exact⟨h,rfl⟩
 |cons ev E ih=>intro d h hE;have k:=hE ev (by simp);have j:=DT.UC h ev k.2 k.1.zz;have i:=ih j.1 (fun x hx=>hE x (by simp[hx]));exact⟨i.1,by show((d.does ev).jw E).abs=E.foldl TS.take (d.abs.take ev);rw[i.2,j.2]⟩
theorem DT.Gv(E:List (List Int)):∀d:DT,(d.jw E).ids≤d.ids+E.length:=by
 induction E with
 |nil=>intro d;show d.ids≤_;simp
 |cons ev E ih=>intro d;have h:=ih (d.does ev);have k:=aa1 d ev;show((d.does ev).jw E).ids≤_;rw[fE];omega
theorem Uw(l:List Int):∀x:akA,(x.chars l).t=(x.m.evs l).2.foldl TS.take x.t∧(x.chars l).r=x.r∧(x.chars l).m=(x.m.evs l).1:=by
 induction l with
 |nil=>intro x;exact⟨rfl,rfl,rfl⟩
 |cons c l ih=>intro x;have h:=ih (x.char c);refine⟨h.1.trans ?_,h.2.1,h.2.2⟩;show((x.m.take c).1.evs l).2.foldl TS.take (if(x.m.take c).2.2 then x.t.take (x.m.take c).2.1 else x.t)=((if(x.m.take c).2.2 then[(x.m.take c).2.1]else[])++((x.m.take c).1.evs l).2).foldl TS.take x.t;rw[List.foldl_append];split<;>rfl
theorem Yl(l:List Int):∀x:akA,(x.feed l).t=(x.m.evs (x.r.run l).2).2.foldl TS.take x.t:=by
 induction l with
 |nil=>intro x;rfl
 |cons b l ih=>intro x;have h:=ih (x.byte b);have k:=Uw (x.r.take b).2 ⟨(x.r.take b).1,x.m,x.t⟩;have k0:(x.byte b).t=(x.m.evs (x.r.take b).2).2.foldl TS.take x.t:=k.1;have k1:(x.byte b).r=(x.r.take b).1:=k.2.1;have k2:(x.byte b).m=(x.m.evs (x.r.take b).2).1:=k.2.2;rw[k0,k1,k2]at h;refine h.trans ?_;show _=(x.m.evs ((x.r.take b).2++((x.r.take b).1.run l).2)).2.foldl TS.take x.t;rw[JN,List.foldl_append]
theorem Qk{d:DT}(h:d.Ok)(rows ah:Nat)(ha:d.abs=TS.fresh rows ah)(l:List Int)(hl:∀b∈l,0≤b∧b<256):(d.jw (qd l)).Ok∧(d.jw (qd l)).abs=((akA.fresh rows ah).feed l).t:=by have k:=DT.Bn (qd l) h (GI l hl);refine⟨k.1,k.2.trans ?_⟩;rw[Yl,ha];unfold qd;rw[oL,EN];rfl
def DT.x_ (rows ah:Nat):DT:=⟨⟨rows,ah,[],aY,[],aY,0,0,false,mO,0,0,0,false,0,0,false,false,0,[]⟩,[],[],List.replicate 40 false,0⟩
theorem ShR.nil(w:World)(B:Nat):ShR w B (.slice none 0 0) []:=⟨none,0,rfl,bN _,fun j c hj=>by simp at hj⟩
theorem bR.bare(w:World)(rows ah:Nat):bR (w.alloc (.cells (rP (.slice none 0 0) (.slice none 0 0) ByteArray.empty 0 (DT.x_ rows ah)).toArray 91)) w.heap.size (.slice none 0 0) (.slice none 0 0) ByteArray.empty 0 (DT.x_ rows ah):=
 ⟨bV _ _,ShR.nil _ _,ShR.nil _ _⟩
theorem UB(rows ah:Nat)(w:World)(hr:1≤rows∧rows≤12)(hc:1≤ah∧ah≤40):Calls prog 23 #[.int .i64 (rows:Int),.int .i64 (ah:Int)] w fun e w'=>∃tb v0 v1,e= .returned (.tuple #[.pointer (some ⟨tb,0,none⟩),.int .i64 0])∧bR w' tb v0 v1 ByteArray.empty 0 (DT.fresh rows ah 0)∧w.heap.size≤tb∧Sm w w':=by
 have b1:decide ((rows:Int)<1)=false:=by simp;omega
 have b2:decide ((12:Int)<(rows:Int))=false:=by simp;omega
 have b3:decide ((ah:Int)<1)=false:=by simp;omega
 have b4:decide ((40:Int)<(ah:Int))=false:=by simp;omega
 go_enter func23,ntmps23;go_upto_region 3 with fail;refine dO ?_;refine au (.int .i64 (rows:Int)) ?_;refine au (.int .i64 (ah:Int)) ?_;refine au (.agg (rP (.slice none 0 0) (.slice none 0 0) ByteArray.empty 0 (DT.x_ rows ah)).toArray) ?_;simp only[ag,af];refine⟨?_⟩;go_wp2_with fail;have T0:=bR.bare w rows ah;refine(Ae w.heap.size _ _ _ 0 _ _ T0 rfl hc.2 hr.2).mono ?_;rintro e w1 ⟨rfl,x0,x1,t1,k1⟩;have HT1:Hid _:=t1;have c1:Ch (· =w.heap.size) w w1:=(Sm.ch ((Ch.refl _ _).alloc _)).trans k1;have wu:Hid (Sm w w1):=⟨c1.os,c1.tape,c1.output,c1.size,fun i hi _=>c1.block i hi (by omega)⟩;clear c1;clear t1 k1 T0;go_wp2_with fail
 first|go_ret2|go_ret
 exact⟨_,x0,x1,rfl,HT1.o,bN _,wu.o⟩
theorem Qj(rows ah:Int)(w:World)(h:¬(1≤rows∧rows≤12∧1≤ah∧ah≤40)):Calls prog 23 #[.int .i64 rows,.int .i64 ah] w fun e w'=>e= .returned (.tuple #[.pointer none,.int .i64 1])∧w'=w:=by
 by_cases h1:rows<1
 ·go_enter func23,ntmps23;go_wp2_with fail
  first|go_ret2|go_ret
  exact⟨rfl,rfl⟩
 have b1:decide (rows<1)=false:=by simp;omega
 by_cases h2:12<rows
 ·go_enter func23,ntmps23;go_wp2_with fail
  first|go_ret2|go_ret
  exact⟨rfl,rfl⟩
 have b2:decide (12<rows)=false:=by simp;omega
 by_cases h3:ah<1
 ·go_enter func23,ntmps23;go_wp2_with fail
  first|go_ret2|go_ret
  exact⟨rfl,rfl⟩
 have b3:decide (ah<1)=false:=by simp;omega
 have h4:40<ah:=by omega
 go_enter func23,ntmps23;go_wp2_with fail
 first|go_ret2|go_ret
 exact⟨rfl,rfl⟩
end Go.Proofs.YtheibfffilomcaaGreatDoor
