import Derived.Test.YtheibfffilomcaaGreatDoorTmaU
import Derived.Test.YtheibfffilomcaaGreatDoorMwcU
import Derived.Test.YtheibfffilomcaaGreatDoorEvwU
import Derived.Test.YtheibfffilomcaaGreatDoorTyU
set_option linter.all false
namespace Go.Proofs.YtheibfffilomcaaGreatDoor
open Go.RowKit
variable {s:MS} {b:Int} {w w':World} {fb:Nat} {L:Lay}
structure akA where
 r:RS
 m:MS
 t:TS
def akA.char (x:akA) (c:Int):akA:=⟨x.r,(x.m.take c).1,if(x.m.take c).2.2 then x.t.take (x.m.take c).2.1 else x.t⟩
def akA.chars (x:akA) (l:List Int):akA:=l.foldl akA.char x
def akA.byte (x:akA) (b:Int):akA:=akA.chars ⟨(x.r.take b).1,x.m,x.t⟩ (x.r.take b).2
def akA.feed (x:akA) (l:List Int):akA:=l.foldl akA.byte x
def akA.fresh (rows ah:Nat):akA:=⟨.zero,.zero,TS.fresh rows ah⟩
theorem Bh(x:akA)(l:List Int)(c:Int):x.chars (l++[c])=(x.chars l).char c:=by simp[akA.chars]
theorem Na(x:akA)(l:List Int)(b:Int):x.feed (l++[b])=(x.feed l).byte b:=by simp[akA.feed]
theorem GJ(x:akA)(l l':List Int):x.feed (l++l')=(x.feed l).feed l':=by simp[akA.feed]
structure akA.Ok (x:akA):Prop where
 r:x.r.ok
 m:x.m.ok
 t:x.t.Inv
theorem seq_ok(h:s.ok){c:Int}(hc:fe c=true):I_ (s.nA c):=by
 have hf:64≤c∧c≤126:=by unfold fe at hc;exact pV hc
 have h0:=h.c0;refine⟨by simp[MS.nA,h.len],?_,?_,fun _=>hf⟩
 ·show 0≤min s.ct 16∧min s.ct 16≤16;omega
 ·exact h.p
theorem BI{k a c:Int}(hk:k≠4):I_ ([k,a,b,c,0]++z16):=⟨rfl,⟨Int.le_refl 0,show(0:Int)≤16 by decide⟩,FN,fun h=>absurd h hk⟩
theorem Hw(h:s.ok)(c:Int)(ht:(s.dJ c).2.2=true):I_ (s.dJ c).2.1:=by
 unfold MS.dJ at ht ⊢;by_cases h1:48≤c∧c≤57
 ·rw[ak h1]at ht;cases ht
 ·rw[ai h1]at ht ⊢;by_cases h2:c=59
  ·rw[ak h2]at ht;cases ht
  ·rw[ai h2]at ht ⊢;by_cases h3:fe c=true
   ·rw[ak h3];exact seq_ok h h3
   ·rw[ai h3]at ht;cases ht
theorem Qu(c:Int)(ht:(s.eZ c).2.2=true):I_ (s.eZ c).2.1:=by
 unfold MS.eZ at ht ⊢;by_cases h1:c=91
 ·rw[ak h1]at ht;cases ht
 ·rw[ai h1]at ht ⊢;by_cases h2:lC c=true
  ·rw[ak h2]at ht;cases ht
  ·rw[ai h2]at ht ⊢;by_cases h3:c≤47
   ·rw[ak h3]at ht;cases ht
   ·rw[ai h3]at ht ⊢;by_cases h4:c≤126
    ·rw[ak h4];exact BI (by decide)
    ·rw[ai h4]at ht;cases ht
theorem Sw(h:s.ok)(c:Int)(ht:(s.dm c).2.2=true):I_ (s.dm c).2.1:=by
 unfold MS.dm at ht ⊢;by_cases h1:s.md=0
 ·rw[ak h1];exact BI (by decide)
 ·rw[ai h1]at ht ⊢;by_cases h2:s.md=1
  ·rw[ak h2]at ht ⊢;exact Qu c ht
  ·rw[ai h2]at ht ⊢;by_cases h3:s.md=2
   ·rw[ak h3]at ht ⊢;by_cases h4:mU c=true
    ·rw[ak h4]at ht;cases ht
    ·rw[ai h4]at ht ⊢;exact Hw (MS.ok.third h h3 h.r0 h.r1) c ht
   ·rw[ai h3]at ht ⊢;by_cases h4:s.md=3
    ·rw[ak h4]at ht ⊢;exact Hw h c ht
    ·rw[ai h4]at ht ⊢;by_cases h5:s.md=4
     ·rw[ak h5]at ht;by_cases h6:fe c=true
      ·rw[ak h6]at ht;cases ht
      ·rw[ai h6]at ht;cases ht
     ·rw[ai h5]at ht;cases ht
theorem Ea(h:s.ok)(c:Int)(ht:(s.take c).2.2=true):I_ (s.take c).2.1:=by
 unfold MS.take at ht ⊢;by_cases h1:c=24∨c=26
 ·rw[ak h1]at ht;cases ht
 ·rw[ai h1]at ht ⊢;by_cases h2:c=27
  ·rw[ak h2]at ht;cases ht
  ·rw[ai h2]at ht ⊢;by_cases h3:s.md=5
   ·rw[ak h3]at ht;cases ht
   ·rw[ai h3]at ht ⊢;by_cases h4:c<32
    ·rw[ak h4];exact BI (by decide)
    ·rw[ai h4]at ht ⊢;by_cases h5:c≠127
     ·rw[ak h5]at ht ⊢;exact Sw h c ht
     ·rw[ai h5]at ht;cases ht
theorem akA.Ok.char{x:akA}(h:x.Ok){c:Int}(h0:0≤c)(h1:c≤10000000):(x.char c).Ok:=by
 refine⟨h.r,h.m.take h0 h1,?_⟩;show(if(x.m.take c).2.2 then x.t.take (x.m.take c).2.1 else x.t).Inv;split
 ·exact h.t.take _
 ·exact h.t
theorem akA.Ok.chars{x:akA}(h:x.Ok):∀(l:List Int),(∀c∈l,0≤c∧c≤10000000)→(x.chars l).Ok:=by
 intro l;induction l generalizing x with
 |nil=>exact fun _=>h
 |cons c l ih=>exact fun hl=>ih (h.char (hl c (by simp)).1 (hl c (by simp)).2) (fun d hd=>hl d (by simp[hd]))
theorem akA.Ok.byte{x:akA}(h:x.Ok)(h0:0≤b)(h1:b<256):(x.byte b).Ok:=akA.Ok.chars (x:=⟨_,_,_⟩) ⟨h.r.take b,h.m,h.t⟩ _ (FJ h.r h0 h1)
theorem akA.Ok.feed{x:akA}(h:x.Ok):∀(l:List Int),(∀b∈l,0≤b∧b<256)→(x.feed l).Ok:=by
 intro l;induction l generalizing x with
 |nil=>exact fun _=>h
 |cons c l ih=>exact fun hl=>ih (h.byte (hl c (by simp)).1 (hl c (by simp)).2) (fun d hd=>hl d (by simp[hd]))
structure Cm (w:World) (fb:Nat) (L:Lay) (x:akA):Prop where
 rd:mM w fb 0 x.r
 ma:kS w fb 4 x.m
 pt:w.cell? ⟨fb,23,none⟩=some (.pointer (some ⟨L.tb,0,none⟩))
 te:cO w L x.t
 no:¬L.own fb
 hi:L.Hi
theorem Cm.kept{w w':World}{fb:Nat}{L:Lay}{x:akA}(h:Cm w fb L x){P:Nat→Prop}(c:Ch P w w')(hf:¬P fb)(hp:∀k,L.own k→¬P k):Cm w' fb L x:=by have hb:=c.block fb h.ma.lt hf;exact⟨h.rd.kept hb,h.ma.kept hb,(dA hb).trans h.pt,h.te.kept c hp,h.no,h.hi⟩
theorem Cm.reader{x:akA}(h:Cm w fb L x){v v':Value}(k:Kl v v' fb 0 w w'){r:RS}(hr:mM w' fb 0 r)(hv:∀i,L.own i→v.ownBlock≠some i):Cm w' fb L ⟨r,x.m,x.t⟩:=by
 refine⟨hr,⟨h.ma.len,fun j y hy=>(k.cell _ (Or.inr (by omega))).trans (h.ma.Cw j y hy),fun j hj=>(k.frozen _).trans (h.ma.fr j hj)⟩,(k.cell 23 (Or.inr (by omega))).trans h.pt,?_,h.no,h.hi⟩
 exact h.te.kept (P:=fun i=>i=fb∨v.ownBlock=some i) ⟨k.os,k.tape,k.output,k.size,fun i hi hn=>k.block i hi (fun e=>hn (.inl e)) (fun e=>hn (.inr e))⟩ (fun i hi hn=>by
  rcases hn with e|e
  ·exact h.no (e▸hi)
  ·exact hv i hi e)
theorem Cm.machine{x:akA}(h:Cm w fb L x)(k:Km fb 4 w w'){m:MS}(hm:kS w' fb 4 m):Cm w' fb L ⟨x.r,m,x.t⟩:=by refine⟨⟨(k.cell 0 (Or.inl (by omega))).trans h.rd.c0,(k.cell 1 (Or.inl (by omega))).trans h.rd.c1,(k.cell 2 (Or.inl (by omega))).trans h.rd.c2,(k.cell 3 (Or.inl (by omega))).trans h.rd.c3,fun j hj=>(k.frozen _).trans (h.rd.f j hj)⟩,hm,(k.cell 23 (Or.inr (by omega))).trans h.pt,?_,h.no,h.hi⟩;exact h.te.kept (P:=fun i=>i=fb) ⟨k.os,k.tape,k.output,k.size,fun i hi hn=>k.block i hi hn⟩ (fun i hi e=>h.no (e▸hi))
theorem Cm.lt{w:World}{fb:Nat}{L:Lay}{x:akA}(h:Cm w fb L x):fb<w.heap.size:=h.ma.lt
namespace TS
def OL (s:TS):Nat × Nat:=(s.rows,s.ah)
theorem JH(s:TS)(S:bS):(s.setCur S).OL=s.OL:=by unfold setCur;split<;>rfl
theorem EJ(s:TS)(n:Nat):(s.gQ n).OL=s.OL:=JH _ _
theorem Qh(s:TS):s.down.OL=s.OL:=by unfold down;split<;>first|exact EJ _ _|rfl
theorem EI(s:TS):s.bE.OL=s.OL:=Qh _
theorem Qi(s:TS):s.save.OL=s.OL:=by unfold save;split<;>rfl
theorem JG(s:TS):s.gH.OL=s.OL:=by unfold gH;split<;>first|exact EI _|rfl
end TS
def RS.Low (s:RS):Prop:=s.m≠0→128≤s.lo
theorem Ra{r:RS}(h:lead b=some r):r.Low:=by
 unfold lead at h
 repeat' split at h
 all_goals first|(cases h;done)|(cases h;intro _;dsimp only;omega)
theorem RS.Low.zero:RS.zero.Low:=fun h=>absurd rfl h
theorem RS.Low.uC{s:RS}(h:s.Low)(b:Int):(s.uC b).1.Low:=by
 unfold RS.uC;split
 ·exact h
 ·split
  ·rename_i r hr;exact Ra hr
  ·exact h
theorem RS.Low.take{s:RS}(h:s.Low)(b:Int):(s.take b).1.Low:=by
 unfold RS.take;split
 ·exact h.uC b
 ·split
  ·have hf:s.fin.1.Low:=by
    unfold RS.fin;split
    ·exact h
    ·exact RS.Low.zero
   exact hf.uC b
  ·unfold RS.join;split
   ·exact RS.Low.zero
   ·intro _;show(128:Int)≤128;omega
theorem Uv(l:List Int):∀x:akA,(x.chars l).r=x.r:=by
 induction l with
 |nil=>intro x;rfl
 |cons c l ih=>intro x;exact ih _
end Go.Proofs.YtheibfffilomcaaGreatDoor
