import Derived.Test.YtheibfffilomcabGreatDoorR4U
import Derived.Test.YtheibfffilomcabGreatDoorXaU
import Derived.Test.YtheibfffilomcabGreatDoorCbU
import Derived.Test.YtheibfffilomcabGreatDoorTyU
set_option linter.all false
set_option maxRecDepth 100000
set_option maxHeartbeats 2000000
namespace Go.Proofs.YtheibfffilomcabGreatDoor
open Go.RowKit Go.Proofs.Tryz
variable {w w':World} {fb:Nat} {L L0:Lay} {v:Value} {cs:List Int} {s m:MS} {b:Int} {r:RS} {fn:Func} {p:Tmp} {ty:TypeId} {fs:Array Field}
structure agR where
 r:RS
 m:MS
 t:TS
def agR.char (x:agR) (c:Int):agR:=⟨x.r,(x.m.take c).1,if(x.m.take c).2.2 then x.t.take (x.m.take c).2.1 else x.t⟩
def agR.chars (x:agR) (l:List Int):agR:=l.foldl agR.char x
def agR.byte (x:agR) (b:Int):agR:=agR.chars ⟨(x.r.take b).1,x.m,x.t⟩ (x.r.take b).2
def agR.feed (x:agR) (l:List Int):agR:=l.foldl agR.byte x
def agR.fresh (rows aa:Nat):agR:=⟨.zero,.zero,TS.fresh rows aa⟩
theorem yJ(x:agR)(l:List Int)(c:Int):x.chars (l++[c])=(x.chars l).char c:=by simp[agR.chars]
theorem K4(x:agR)(l:List Int)(b:Int):x.feed (l++[b])=(x.feed l).byte b:=by simp[agR.feed]
theorem xm(x:agR)(l l':List Int):x.feed (l++l')=(x.feed l).feed l':=by simp[agR.feed]
structure agR.Ok (x:agR):Prop where
 r:x.r.ok
 m:x.m.ok
 t:x.t.Inv
theorem seq_ok(h:s.ok){c:Int}(hc:iF c=true):Gz (s.nP c):=by
 have hf:64≤c∧c≤126:=by unfold iF at hc;exact nG hc
 have h0:=h.c0;refine⟨by simp[MS.nP,h.len],?_,?_,fun _=>hf⟩
 ·show 0≤min s.ct 16∧min s.ct 16≤16;omega
 ·exact h.p
theorem zn{k a c:Int}(hk:k≠4):Gz ([k,a,b,c,0]++z16):=⟨rfl,⟨Int.le_refl 0,show(0:Int)≤16 by decide⟩,Dz,fun h=>absurd h hk⟩
theorem ET(h:s.ok)(c:Int)(ht:(s.cO c).2.2=true):Gz (s.cO c).2.1:=by
 unfold MS.cO at ht ⊢;by_cases h1:48≤c∧c≤57
 ·rw[aS h1]at ht;cases ht
 ·rw[aG h1]at ht ⊢;by_cases h2:c=59
  ·rw[aS h2]at ht;cases ht
  ·rw[aG h2]at ht ⊢;by_cases h3:iF c=true
   ·rw[aS h3];exact seq_ok h h3
   ·rw[aG h3]at ht;cases ht
theorem Om(c:Int)(ht:(s.dz c).2.2=true):Gz (s.dz c).2.1:=by
 unfold MS.dz at ht ⊢;by_cases h1:c=91
 ·rw[aS h1]at ht;cases ht
 ·rw[aG h1]at ht ⊢;by_cases h2:jZ c=true
  ·rw[aS h2]at ht;cases ht
  ·rw[aG h2]at ht ⊢;by_cases h3:c≤47
   ·rw[aS h3]at ht;cases ht
   ·rw[aG h3]at ht ⊢;by_cases h4:c≤126
    ·rw[aS h4];exact zn (by decide)
    ·rw[aG h4]at ht;cases ht
theorem Qf(h:s.ok)(c:Int)(ht:(s.bT c).2.2=true):Gz (s.bT c).2.1:=by
 unfold MS.bT at ht ⊢;by_cases h1:s.md=0
 ·rw[aS h1];exact zn (by decide)
 ·rw[aG h1]at ht ⊢;by_cases h2:s.md=1
  ·rw[aS h2]at ht ⊢;exact Om c ht
  ·rw[aG h2]at ht ⊢;by_cases h3:s.md=2
   ·rw[aS h3]at ht ⊢;by_cases h4:lJ c=true
    ·rw[aS h4]at ht;cases ht
    ·rw[aG h4]at ht ⊢;exact ET (MS.ok.third h h3 h.r0 h.r1) c ht
   ·rw[aG h3]at ht ⊢;by_cases h4:s.md=3
    ·rw[aS h4]at ht ⊢;exact ET h c ht
    ·rw[aG h4]at ht ⊢;by_cases h5:s.md=4
     ·rw[aS h5]at ht;by_cases h6:iF c=true
      ·rw[aS h6]at ht;cases ht
      ·rw[aG h6]at ht;cases ht
     ·rw[aG h5]at ht;cases ht
theorem BO(h:s.ok)(c:Int)(ht:(s.take c).2.2=true):Gz (s.take c).2.1:=by
 unfold MS.take at ht ⊢;by_cases h1:c=24∨c=26
 ·rw[aS h1]at ht;cases ht
 ·rw[aG h1]at ht ⊢;by_cases h2:c=27
  ·rw[aS h2]at ht;cases ht
  ·rw[aG h2]at ht ⊢;by_cases h3:s.md=5
   ·rw[aS h3]at ht;cases ht
   ·rw[aG h3]at ht ⊢;by_cases h4:c<32
    ·rw[aS h4];exact zn (by decide)
    ·rw[aG h4]at ht ⊢;by_cases h5:c≠127
     ·rw[aS h5]at ht ⊢;exact Qf h c ht
     ·rw[aG h5]at ht;cases ht
theorem agR.Ok.char{x:agR}(h:x.Ok){c:Int}(h0:0≤c)(h1:c≤10000000):(x.char c).Ok:=by
 refine⟨h.r,h.m.take h0 h1,?_⟩;show(if(x.m.take c).2.2 then x.t.take (x.m.take c).2.1 else x.t).Inv;split
 ·exact h.t.take _
 ·exact h.t
theorem agR.Ok.chars{x:agR}(h:x.Ok):∀(l:List Int),(∀c∈l,0≤c∧c≤10000000)→(x.chars l).Ok:=by
 intro l;induction l generalizing x with
 |nil=>exact fun _=>h
 |cons c l ih=>exact fun hl=>ih (h.char (hl c (by simp)).1 (hl c (by simp)).2) (fun d hd=>hl d (by simp[hd]))
theorem agR.Ok.byte{x:agR}(h:x.Ok)(h0:0≤b)(h1:b<256):(x.byte b).Ok:=agR.Ok.chars (x:=⟨_,_,_⟩) ⟨h.r.take b,h.m,h.t⟩ _ (Dw h.r h0 h1)
theorem agR.Ok.feed{x:agR}(h:x.Ok):∀(l:List Int),(∀b∈l,0≤b∧b<256)→(x.feed l).Ok:=by
 intro l;induction l generalizing x with
 |nil=>exact fun _=>h
 |cons c l ih=>exact fun hl=>ih (h.byte (hl c (by simp)).1 (hl c (by simp)).2) (fun d hd=>hl d (by simp[hd]))
structure wU (w:World) (fb:Nat) (L:Lay) (x:agR):Prop where
 rd:jc w fb 0 x.r
 ma:iD w fb 4 x.m
 pt:w.cell? ⟨fb,23,none⟩=some (.pointer (some ⟨L.tb,0,none⟩))
 te:a_ w L x.t
 no:¬L.own fb
 hi:L.Hi
theorem wU.kept{w w':World}{fb:Nat}{L:Lay}{x:agR}(h:wU w fb L x){P:Nat→Prop}(c:Ch P w w')(hf:¬P fb)(hp:∀k,L.own k→¬P k):wU w' fb L x:=by have hb:=c.block fb h.ma.lt hf;exact⟨h.rd.kept hb,h.ma.kept hb,(eT hb).trans h.pt,h.te.kept c hp,h.no,h.hi⟩
theorem wU.reader{x:agR}(h:wU w fb L x){v':Value}(k:Kl v v' fb 0 w w')(hr:jc w' fb 0 r)(hv:∀i,L.own i→v.ownBlock≠some i):wU w' fb L ⟨r,x.m,x.t⟩:=by
 refine⟨hr,⟨h.ma.len,fun j y hy=>(k.cell _ (Or.inr (by omega))).trans (h.ma.ZR j y hy),fun j hj=>(k.frozen _).trans (h.ma.fr j hj)⟩,(k.cell 23 (Or.inr (by omega))).trans h.pt,?_,h.no,h.hi⟩
 exact h.te.kept (P:=fun i=>i=fb∨v.ownBlock=some i) ⟨k.os,k.tape,k.output,k.size,fun i hi hn=>k.block i hi (fun e=>hn (.inl e)) (fun e=>hn (.inr e))⟩ (fun i hi hn=>by
  rcases hn with e|e
  ·exact h.no (e▸hi)
  ·exact hv i hi e)
theorem wU.machine{x:agR}(h:wU w fb L x)(k:Km fb 4 w w')(hm:iD w' fb 4 m):wU w' fb L ⟨x.r,m,x.t⟩:=by refine⟨⟨(k.cell 0 (Or.inl (by omega))).trans h.rd.c0,(k.cell 1 (Or.inl (by omega))).trans h.rd.c1,(k.cell 2 (Or.inl (by omega))).trans h.rd.c2,(k.cell 3 (Or.inl (by omega))).trans h.rd.c3,fun j hj=>(k.frozen _).trans (h.rd.f j hj)⟩,hm,(k.cell 23 (Or.inr (by omega))).trans h.pt,?_,h.no,h.hi⟩;exact h.te.kept (P:=fun i=>i=fb) ⟨k.os,k.tape,k.output,k.size,fun i hi hn=>k.block i hi hn⟩ (fun i hi e=>h.no (e▸hi))
theorem wU.lt{w:World}{fb:Nat}{L:Lay}{x:agR}(h:wU w fb L x):fb<w.heap.size:=h.ma.lt
structure FI (w:World) (fb:Nat) (L0:Lay) (v:Value) (cs:List Int) (x:agR) (wr:World) (L:Lay):Prop where
 f:wU wr fb L x
 l:eu wr (fb+1) v cs
 Qs:L.tb=L0.tb
 ch:Ch (fun k=>k=fb∨L0.own k) w wr
 gr:∀k,L.own k→L0.own k∨w.heap.size≤k
 vn:∀k,v.ownBlock=some k→w.heap.size≤k∧¬L.own k
 tb:iE wr
 lo:2<fb∧fb<w.heap.size
theorem FI.vlt{wr:World}{x:agR}(h:FI w fb L0 v cs x wr L){k:Nat}(hk:v.ownBlock=some k):k<wr.heap.size:=((Jp h.l) k hk).2
theorem FI.same{wr:World}{x:agR}(h:FI w fb L0 v cs x wr L)(b:Below wr.heap.size wr w'):FI w fb L0 v cs x w' L:=
 ⟨h.f.kept (P:=fun _=>False) (Ch.of_below b) id (fun _ _=>id),h.l.below b,h.Qs,h.ch.trans (Ch.of_below b),h.gr,h.vn,h.tb.ch (P:=fun _=>False) (Ch.of_below b) (fun _ _=>id),h.lo⟩
theorem eu.blk{base:Nat}{L:List Int}(h:eu w base v L)(hb:∀k,v.ownBlock=some k→w'.heap[k]? =w.heap[k]?):eu w' base v L:=by
 obtain⟨h1,h2⟩:=h;refine⟨h1,?_⟩;rcases h2 with h2|⟨g,cap,cur,hv,hg,hblk,h5⟩
 ·exact .inl h2
 ·exact .inr ⟨g,cap,cur,hv,hg,(hb g (by rw[hv];rfl)).trans hblk,h5⟩
theorem FI.km{wr:World}{x:agR}(h:FI w fb L0 v cs x wr L)(k:Km fb 4 wr w')(hm:iD w' fb 4 m):FI w fb L0 v cs ⟨x.r,m,x.t⟩ w' L:=by have c:Ch (fun i=>i=fb) wr w':=⟨k.os,k.tape,k.output,k.size,fun i hi hn=>k.block i hi hn⟩;have hlo:=h.lo;exact⟨h.f.machine k hm,h.l.blk (fun i hi=>c.block i (h.vlt hi) (by have:=(h.vn i hi).1;omega)),h.Qs,h.ch.trans' c (fun i _ e=>.inl e),h.gr,h.vn,h.tb.ch c (fun i hi e=>by omega),h.lo⟩
theorem FI.next{wr:World}{x:agR}(h:FI w fb L0 v cs x wr L){t:TS}(n:Next L wr w' t):∃L',FI w fb L0 v cs ⟨x.r,x.m,t⟩ w' L':=by
 obtain⟨L',h1,h2,h3,h4⟩:=n;have hb:=h3.block fb h.f.lt h.f.no;have hlo:=h.lo;have hfl:=h.f.lt;refine⟨L',⟨h.f.rd.kept hb,h.f.ma.kept hb,by rw[h1];exact(eT hb).trans h.f.pt,h2,fun q=>?_,fun k hk=>?_⟩,h.l.blk (fun i hi=>h3.block i (h.vlt hi) (h.vn i hi).2),h1.trans h.Qs,h.ch.trans' h3 (fun i hi q=>?_),fun k hk=>?_,fun k hk=>⟨(h.vn k hk).1,fun q=>?_⟩,h.tb.ch h3 (fun i hi q=>?_),h.lo⟩
 ·rcases h4 fb q with q|q
  ·exact h.f.no q
  ·omega
 ·rcases h4 k hk with q|q
  ·exact h.f.hi k q
  ·omega
 ·rcases h.gr i q with e|e
  ·exact .inr e
  ·omega
 ·rcases h4 k hk with q|q
  ·exact h.gr k q
  ·exact .inr (fA h.ch.size q)
 ·rcases h4 k q with e|e
  ·exact(h.vn k hk).2 e
  ·have:=h.vlt hk;omega
 ·have:=h.f.hi i q;omega
theorem FI.read{wr:World}{v1:Value}{cs1:List Int}{x:agR}(h:FI w fb L0 v cs x wr L)(k:Kl v v1 fb 0 wr w')(hr:jc w' fb 0 r)(hl:eu w' (fb+1) v1 cs1):FI w fb L0 v1 cs1 ⟨r,x.m,x.t⟩ w' L:=by
 have c:Ch (fun i=>i=fb∨v.ownBlock=some i) wr w':=⟨k.os,k.tape,k.output,k.size,fun i hi hn=>k.block i hi (fun e=>hn (.inl e)) (fun e=>hn (.inr e))⟩;have hlo:=h.lo;refine⟨h.f.reader k hr (fun i hi e=>(h.vn i e).2 hi),hl,h.Qs,h.ch.trans' c (fun i hi q=>?_),h.gr,fun i hi=>?_,h.tb.ch c (fun i hi q=>?_),h.lo⟩
 ·rcases q with q|q
  ·exact .inl q
  ·have:=(h.vn i q).1;omega
 ·rcases k.own i hi with q|q
  ·exact h.vn i q
  ·exact⟨fA h.ch.size q,fun e=>by have:=h.f.te.jv e;omega⟩
 ·rcases q with q|q
  ·omega
  ·have:=(h.vn i q).1;omega
theorem FI.cut{wr:World}{x:agR}(h:FI w fb L0 v cs x wr L):∃ao n cap,v= .slice ao n cap∧(ao=none→n=0∧cap=0)∧n≤cap∧(∀b,ao=some b→b.off=0∧b.spot=none)∧FI w fb L0 (.slice ao 0 cap) [] x wr L:=by
 obtain⟨h1,h2⟩:=h.l;rcases h2 with⟨hv,hn⟩|⟨g,cap,cur,hv,hg,hblk,hn,hm,hcs,htake⟩
 ·subst hv;exact⟨none,0,0,rfl,fun _=>⟨rfl,rfl⟩,bE _,fun b hb=>(by cases hb),⟨h.f,World.ownsRow_nil _ _ _ _,h.Qs,h.ch,h.gr,h.vn,h.tb,h.lo⟩⟩
 ·subst hv;exact⟨some ⟨g,0,none⟩,cs.length,cap,rfl,fun e=>(by cases e),hn,fun b hb=>(by cases hb;exact⟨rfl,rfl⟩),⟨h.f,⟨rfl,.inr ⟨g,cap,cur,rfl,hg,hblk,jy _,hm,hcs,by simp⟩⟩,h.Qs,h.ch,h.gr,h.vn,h.tb,h.lo⟩⟩
theorem yP(fb:Nat)(L0:Lay)(x0:agR)(s:ByteArray)(w:World)(h:wU w fb L0 x0)(hok:x0.Ok)(htb:iE w)(vF:2<fb)(hs:s.size≤281474976710656):
 Calls prog 16 #[.pointer (some ⟨fb,0,none⟩),.string s] w fun e w'=>e= .returned (.tuple #[])∧∃v cs L,FI w fb L0 v cs (x0.feed (bl s)) w' L:=by
 have F0:FI w fb L0 (.slice none 0 0) [] x0 w L0:=⟨h,World.ownsRow_nil _ _ _ _,rfl,Ch.refl _ _,fun _ hk=>.inl hk,fun k hk=>(by cases hk),htb,vF,h.lt⟩;have HF0:Hid _:=F0;have HOK:Hid x0.Ok:=hok;have HB:Hid ((bl s).length=s.size):=oG s;have HBY:Hid (∀b∈bl s,0≤b∧b<256):=nJ s;clear h hok htb F0;go_enter func16,ntmps16;go_wp2_with fail;go_loopw [4,12] (fun v i wr=>∃(k:Nat) (cs:List Int) (L:Lay),k≤s.size∧i= .int .i64 k∧FI w fb L0 v cs (x0.feed ((bl s).take k)) wr L) (fun _ i _=>s.size-(intOf i).toNat)
 case atStart=>exact⟨0,[],L0,jy _,rfl,HF0.o⟩
 case round=>
  clear HF0;obtain⟨k,cs,L,hk,rfl,F⟩:=hrel;by_cases hlt:k<s.size
  ·have hxk:(x0.feed ((bl s).take k)).Ok:=HOK.o.feed _ (fun b hb=>HBY.o b (DR hb));have hbt:=QM s k hlt;have hx1:(s[k]'hlt).toNat<256:=UInt8.toNat_lt _;have HS:Hid (x0.feed ((bl s).take (k+1))=(x0.feed ((bl s).take k)).byte ((s[k]'hlt).toNat:Int)):=by show _=_;rw[hbt,K4]
   clear hbt;generalize x0.feed ((bl s).take k)=x at*;obtain⟨ao,n,cap,rfl,hnone,aeE,Oy,F⟩:=F.cut;have ik:(k:Int)<(s.size:Int):=by omega
   have hle1:jK wr:=F.tb.le;have hlo:=F.lo;have hsz:=F.ch.size;have lr:=MG (fb+1) fb 0 x.r ((s[k]'hlt).toNat:Int) (.slice ao 0 cap) [] ({wr with drawn:=wr.drawn+1}:World) (F.f.rd.kept rfl) hxk.r (by omega) (by omega) (hle1.kept rfl) (by omega) (by omega) (F.l.blk (fun _ _=>rfl)) (by simp) (by show fb+1≤wr.heap.size;omega);have HF:Hid _:=F;have HX:Hid x.Ok:=hxk;clear F hxk hle1;cases ao with
   |none=>
    obtain⟨rfl,rfl⟩:=hnone rfl;clear hnone Oy;go_wp2_with fail;refine fJ (S:=fun _=>True) bI ?_;refine aL 0 1 2 3 trivial ?_;simp only[ah,ag];refine ak 4 trivial ?_ (v:=.slice none 0 0);refine g_ 5 6 trivial ?_;refine ak 7 trivial ?_ (v:=.int .u8 ((s[k]'hlt).toNat:Int));simp only[ah,ag];refine aD 8 ?_;refine bR (R:=fun v w'=>FI w fb L0 v (x.r.take ((s[k]'hlt).toNat:Int)).2 ⟨(x.r.take ((s[k]'hlt).toNat:Int)).1,x.m,x.t⟩ w' L) (lr.mono fun e w' ⟨v1,q1,q2,q3,q4⟩=>⟨v1,q1,HF.o.read ⟨q4.os,q4.tape,q4.output,q4.size,q4.block,q4.cell,q4.frozen,q4.own⟩ q3 (by simpa using q2)⟩) ?_;intro v1 w1 F1;refine⟨trivial,?_⟩;clear lr HF;simp only[ah,ag];refine ak 9 trivial ?_;simp only[ah,ag];refine aM ?_;have hcb:=Dw HX.o.r (b:=((s[k]'hlt).toNat:Int)) (by omega) (by omega);have hcl:=take_len x.r ((s[k]'hlt).toNat:Int);have HS2:Hid (x0.feed ((bl s).take (k+1))=agR.chars ⟨(x.r.take ((s[k]'hlt).toNat:Int)).1,x.m,x.t⟩ (x.r.take ((s[k]'hlt).toNat:Int)).2):=HS.o;have si:Hid (agR.Ok ⟨(x.r.take ((s[k]'hlt).toNat:Int)).1,x.m,x.t⟩):=⟨HX.o.r.take _,HX.o.m,HX.o.t⟩;clear HS HX;generalize (x.r.take ((s[k]'hlt).toNat:Int)).2=cs1 at*;generalize (⟨(x.r.take ((s[k]'hlt).toNat:Int)).1,x.m,x.t⟩:agR)=x1 at*;obtain⟨a1,c1,rfl,_⟩:=rq F1.l;have DC:Hid _:=F1;clear F1;go_wp2_with fail;go_loopw [26] (fun i wq=>∃(j:Nat) (L:Lay),j≤cs1.length∧i= .int .i64 j∧FI w fb L0 (.slice a1 cs1.length c1) cs1 (x1.chars (cs1.take j)) wq L) (fun i _=>cs1.length-(intOf i).toNat)
    case atStart=>exact⟨0,L,jy _,rfl,DC.o⟩
    case round=>
     clear DC;obtain⟨j,L,hj,rfl,F⟩:=hrel;by_cases hlt2:j<cs1.length
     ·have ij:(j:Int)<(cs1.length:Int):=by omega
      obtain⟨_,_,ee,q⟩:=rq F.l;obtain⟨g,hg,cc⟩:=q j (.int .i64 cs1[j]) (by simp[gK hlt2]);cases ee;subst hg;have Oz:=hcb cs1[j] (Jr hlt2);have QD:Hid (x1.chars (cs1.take (j+1))=(x1.chars (cs1.take j)).char cs1[j]):=by show _=_;rw[yh hlt2,yJ]
      have hxk:(x1.chars (cs1.take j)).Ok:=si.o.chars _ (fun c hc=>hcb c (DR hc));generalize cs1[j]=c at*;generalize x1.chars (cs1.take j)=y at*;have gM:=wL hxk.m.len c;have OB:=BO hxk.m c;have lm:=BP fb 4 y.m c _ F.f.ma hxk.m Oz.1 Oz.2;have HY:Hid (y.char c=⟨y.r,(y.m.take c).1,if(y.m.take c).2.2 then y.t.take (y.m.take c).2.1 else y.t⟩):=rfl;have HF:Hid _:=F;have HYK:Hid y.Ok:=hxk;have Wu:Hid _:=OB;obtain⟨⟨m',EV,B⟩,hT⟩:∃z,y.m.take c=z:=⟨_,rfl⟩;rw[hT]at lm HY gM Wu;dsimp only at lm gM;clear F q hxk OB hT;go_wp2_with fail;refine lm.mono ?_;rintro e u1 ⟨rfl,Rq,OP⟩;dsimp only;have F1:=HF.o.km OP Rq;have DC:Hid _:=F1;clear F1 HF lm OP Rq;go_wp2_with (refine cZ _ rfl (.tmp 8) (.tmp 36) rfl u1.heap.size bG EV rfl _ rfl rfl gM 92 (bJ u1 _) rfl ?_);intro u2 DJ Br zu2;have r2:u1.grownBy u2 (some u1.heap.size):=pQ (World.grownBy_alloc u1 _ _) Br;have F2:=DC.o.same (w':=u2) ⟨r2.os,r2.tape,r2.output,r2.size,fun k hk=>r2.block k hk (fun e=>by simp at e;omega)⟩;have UU:¬L.own u1.heap.size:=fun e=>by have:=DC.o.f.te.jv e;omega
      have hl2:u1.heap.size<u2.heap.size:=bM DJ;have AP:Hid _:=F2;clear F2 DC Br r2;cases B with
      |false=>
       have Tw:Hid (x1.chars (cs1.take (j+1))=⟨y.r,m',y.t⟩):=QD.o.trans HY.o;clear QD HY;go_wp2_with fail;go_roundw
       case rel=>exact⟨j+1,L,by omega,by go_num,by rw[Tw.o];exact AP.o⟩
       case measure=>simp[intOf];omega
      |true=>
       have Tw:Hid (x1.chars (cs1.take (j+1))=⟨y.r,m',y.t.take EV⟩):=QD.o.trans HY.o;have lt:=BS L y.t ({u2 with drawn:=u2.drawn+1}:World) (AP.o.f.te.sm ((Ch.refl _ _).drewN 1)) HYK.o.t AP.o.f.hi (AP.o.tb.kept (fun _ _=>rfl)) EV (Wu.o rfl);have RG:∀u:World,u.heap[u1.heap.size]? =u2.heap[u1.heap.size]? →u.rangeAt u1.heap.size 0 (jV EV):=fun u hu i v hv=>by rw[dJ _ _ _ _ _ _ (hu.trans DJ),lG];simpa[aO]using hv
       have HH:World.cell? ({u2 with drawn:=u2.drawn+1}:World) ⟨fb,23,none⟩=some (.pointer (some ⟨L.tb,0,none⟩))∧World.rangeAt ({u2 with drawn:=u2.drawn+1}:World) u1.heap.size 0 (jV EV):=⟨AP.o.f.pt,RG _ rfl⟩;clear QD HY;go_wp2_with fail;refine fJ (S:=fun x=>x.cell? ⟨fb,23,none⟩=some (.pointer (some ⟨L.tb,0,none⟩))∧x.rangeAt u1.heap.size 0 (jV EV)) bI ?_;refine aL 0 1 2 3 HH ?_;simp only[ah,ag];refine ak 4 HH ?_ (v:=.agg (aO EV)) (hy:=(ug (by rfl) 92 (.tmp 8) rfl u1.heap.size 0 rfl (jV EV) _ (fun x h=>h.2) underlying92 rfl (by rw[qP,gM];exact vM)));simp only[ah,ag];refine aD 5 ?_;refine bR (vs:=[.pointer (some ⟨L.tb,0,none⟩),.agg (aO EV)]) (R:=fun v w'=>v= .tuple #[]∧Next L u2 w' (y.t.take EV)) (lt.mono fun e w' ⟨q1,L',q2,q3,q4,q5⟩=>⟨_,q1,rfl,L',q2,q3,⟨q4.os,q4.tape,q4.output,q4.size,q4.block⟩,q5⟩) ?_;rintro v3 u3 ⟨rfl,nx⟩;have hk3:u3.heap[u1.heap.size]? =u2.heap[u1.heap.size]? :=by obtain⟨L',_,_,q,_⟩:=nx;exact q.block _ hl2 UU
       obtain⟨L',F3⟩:=AP.o.next nx;refine⟨⟨by rw[F3.f.pt,F3.Qs,AP.o.Qs],RG _ hk3⟩,?_⟩;clear lt HH;simp only[ah,ag];have HF3:Hid _:=F3;clear F3 nx AP RG hk3;refine aM ?_;go_wp2_with fail;go_roundw
       case rel=>exact⟨j+1,L',by omega,by go_num,by rw[Tw.o];exact HF3.o⟩
       case measure=>simp[intOf];omega
     ·have hjn:j=cs1.length:=by omega
      subst hjn;rw[List.take_length]at F;have HF:Hid _:=F;clear F;go_wp2_with fail;go_roundw
      case rel=>exact⟨k+1,cs1,L,by omega,by go_num,by rw[HS2.o];exact HF.o⟩
      case measure=>simp[intOf];omega
   |some ad=>
    obtain⟨g0,o0,sp0⟩:=ad;obtain⟨ho0,Za⟩:=Oy _ rfl;dsimp only at ho0 Za;subst ho0 Za;clear hnone Oy;have ic:(0:Int)≤(cap:Int):=by omega
    go_wp2_with fail;refine fJ (S:=fun _=>True) bI ?_;refine aL 0 1 2 3 trivial ?_;simp only[ah,ag];refine ak 4 trivial ?_ (v:=.slice (some ⟨g0,0,none⟩) 0 cap);refine g_ 5 6 trivial ?_;refine ak 7 trivial ?_ (v:=.int .u8 ((s[k]'hlt).toNat:Int));simp only[ah,ag];refine aD 8 ?_;refine bR (R:=fun v w'=>FI w fb L0 v (x.r.take ((s[k]'hlt).toNat:Int)).2 ⟨(x.r.take ((s[k]'hlt).toNat:Int)).1,x.m,x.t⟩ w' L) (lr.mono fun e w' ⟨v1,q1,q2,q3,q4⟩=>⟨v1,q1,HF.o.read ⟨q4.os,q4.tape,q4.output,q4.size,q4.block,q4.cell,q4.frozen,q4.own⟩ q3 (by simpa using q2)⟩) ?_;intro v1 w1 F1;refine⟨trivial,?_⟩;clear lr HF;simp only[ah,ag];refine ak 9 trivial ?_;simp only[ah,ag];refine aM ?_;have hcb:=Dw HX.o.r (b:=((s[k]'hlt).toNat:Int)) (by omega) (by omega);have hcl:=take_len x.r ((s[k]'hlt).toNat:Int);have HS2:Hid (x0.feed ((bl s).take (k+1))=agR.chars ⟨(x.r.take ((s[k]'hlt).toNat:Int)).1,x.m,x.t⟩ (x.r.take ((s[k]'hlt).toNat:Int)).2):=HS.o;have si:Hid (agR.Ok ⟨(x.r.take ((s[k]'hlt).toNat:Int)).1,x.m,x.t⟩):=⟨HX.o.r.take _,HX.o.m,HX.o.t⟩;clear HS HX;generalize (x.r.take ((s[k]'hlt).toNat:Int)).2=cs1 at*;generalize (⟨(x.r.take ((s[k]'hlt).toNat:Int)).1,x.m,x.t⟩:agR)=x1 at*;obtain⟨a1,c1,rfl,_⟩:=rq F1.l;have DC:Hid _:=F1;clear F1;go_wp2_with fail;go_loopw [26] (fun i wq=>∃(j:Nat) (L:Lay),j≤cs1.length∧i= .int .i64 j∧FI w fb L0 (.slice a1 cs1.length c1) cs1 (x1.chars (cs1.take j)) wq L) (fun i _=>cs1.length-(intOf i).toNat)
    case atStart=>exact⟨0,L,jy _,rfl,DC.o⟩
    case round=>
     clear DC;obtain⟨j,L,hj,rfl,F⟩:=hrel;by_cases hlt2:j<cs1.length
     ·have ij:(j:Int)<(cs1.length:Int):=by omega
      obtain⟨_,_,ee,q⟩:=rq F.l;obtain⟨g,hg,cc⟩:=q j (.int .i64 cs1[j]) (by simp[gK hlt2]);cases ee;subst hg;have Oz:=hcb cs1[j] (Jr hlt2);have QD:Hid (x1.chars (cs1.take (j+1))=(x1.chars (cs1.take j)).char cs1[j]):=by show _=_;rw[yh hlt2,yJ]
      have hxk:(x1.chars (cs1.take j)).Ok:=si.o.chars _ (fun c hc=>hcb c (DR hc));generalize cs1[j]=c at*;generalize x1.chars (cs1.take j)=y at*;have gM:=wL hxk.m.len c;have OB:=BO hxk.m c;have lm:=BP fb 4 y.m c _ F.f.ma hxk.m Oz.1 Oz.2;have HY:Hid (y.char c=⟨y.r,(y.m.take c).1,if(y.m.take c).2.2 then y.t.take (y.m.take c).2.1 else y.t⟩):=rfl;have HF:Hid _:=F;have HYK:Hid y.Ok:=hxk;have Wu:Hid _:=OB;obtain⟨⟨m',EV,B⟩,hT⟩:∃z,y.m.take c=z:=⟨_,rfl⟩;rw[hT]at lm HY gM Wu;dsimp only at lm gM;clear F q hxk OB hT;go_wp2_with fail;refine lm.mono ?_;rintro e u1 ⟨rfl,Rq,OP⟩;dsimp only;have F1:=HF.o.km OP Rq;have DC:Hid _:=F1;clear F1 HF lm OP Rq;go_wp2_with (refine cZ _ rfl (.tmp 8) (.tmp 36) rfl u1.heap.size bG EV rfl _ rfl rfl gM 92 (bJ u1 _) rfl ?_);intro u2 DJ Br zu2;have r2:u1.grownBy u2 (some u1.heap.size):=pQ (World.grownBy_alloc u1 _ _) Br;have F2:=DC.o.same (w':=u2) ⟨r2.os,r2.tape,r2.output,r2.size,fun k hk=>r2.block k hk (fun e=>by simp at e;omega)⟩;have UU:¬L.own u1.heap.size:=fun e=>by have:=DC.o.f.te.jv e;omega
      have hl2:u1.heap.size<u2.heap.size:=bM DJ;have AP:Hid _:=F2;clear F2 DC Br r2;cases B with
      |false=>
       have Tw:Hid (x1.chars (cs1.take (j+1))=⟨y.r,m',y.t⟩):=QD.o.trans HY.o;clear QD HY;go_wp2_with fail;go_roundw
       case rel=>exact⟨j+1,L,by omega,by go_num,by rw[Tw.o];exact AP.o⟩
       case measure=>simp[intOf];omega
      |true=>
       have Tw:Hid (x1.chars (cs1.take (j+1))=⟨y.r,m',y.t.take EV⟩):=QD.o.trans HY.o;have lt:=BS L y.t ({u2 with drawn:=u2.drawn+1}:World) (AP.o.f.te.sm ((Ch.refl _ _).drewN 1)) HYK.o.t AP.o.f.hi (AP.o.tb.kept (fun _ _=>rfl)) EV (Wu.o rfl);have RG:∀u:World,u.heap[u1.heap.size]? =u2.heap[u1.heap.size]? →u.rangeAt u1.heap.size 0 (jV EV):=fun u hu i v hv=>by rw[dJ _ _ _ _ _ _ (hu.trans DJ),lG];simpa[aO]using hv
       have HH:World.cell? ({u2 with drawn:=u2.drawn+1}:World) ⟨fb,23,none⟩=some (.pointer (some ⟨L.tb,0,none⟩))∧World.rangeAt ({u2 with drawn:=u2.drawn+1}:World) u1.heap.size 0 (jV EV):=⟨AP.o.f.pt,RG _ rfl⟩;clear QD HY;go_wp2_with fail;refine fJ (S:=fun x=>x.cell? ⟨fb,23,none⟩=some (.pointer (some ⟨L.tb,0,none⟩))∧x.rangeAt u1.heap.size 0 (jV EV)) bI ?_;refine aL 0 1 2 3 HH ?_;simp only[ah,ag];refine ak 4 HH ?_ (v:=.agg (aO EV)) (hy:=(ug (by rfl) 92 (.tmp 8) rfl u1.heap.size 0 rfl (jV EV) _ (fun x h=>h.2) underlying92 rfl (by rw[qP,gM];exact vM)));simp only[ah,ag];refine aD 5 ?_;refine bR (vs:=[.pointer (some ⟨L.tb,0,none⟩),.agg (aO EV)]) (R:=fun v w'=>v= .tuple #[]∧Next L u2 w' (y.t.take EV)) (lt.mono fun e w' ⟨q1,L',q2,q3,q4,q5⟩=>⟨_,q1,rfl,L',q2,q3,⟨q4.os,q4.tape,q4.output,q4.size,q4.block⟩,q5⟩) ?_;rintro v3 u3 ⟨rfl,nx⟩;have hk3:u3.heap[u1.heap.size]? =u2.heap[u1.heap.size]? :=by obtain⟨L',_,_,q,_⟩:=nx;exact q.block _ hl2 UU
       obtain⟨L',F3⟩:=AP.o.next nx;refine⟨⟨by rw[F3.f.pt,F3.Qs,AP.o.Qs],RG _ hk3⟩,?_⟩;clear lt HH;simp only[ah,ag];have HF3:Hid _:=F3;clear F3 nx AP RG hk3;refine aM ?_;go_wp2_with fail;go_roundw
       case rel=>exact⟨j+1,L',by omega,by go_num,by rw[Tw.o];exact HF3.o⟩
       case measure=>simp[intOf];omega
     ·have hjn:j=cs1.length:=by omega
      subst hjn;rw[List.take_length]at F;have HF:Hid _:=F;clear F;go_wp2_with fail;go_roundw
      case rel=>exact⟨k+1,cs1,L,by omega,by go_num,by rw[HS2.o];exact HF.o⟩
      case measure=>simp[intOf];omega
  ·have hkn:k=s.size:=by omega
   subst hkn;have hba:=TD s;rw[hba]at F;have HF:Hid _:=F;clear F hba;go_wp2_with fail;go_end0;exact⟨rfl,_,cs,L,HF.o⟩
def TS.cellAt (t:TS) (n i k:Nat):aC:=((if n=0 then t.s0 else t.s1).getD i []).getD k aQ
def TS.dP (t:TS) (n:Nat):dQ:=if n=0 then t.v0 else t.v1
def M5 (s:TS):List Value:=aN s.spot++[.int .i64 s.top,.int .i64 s.bottom,.bool s.wrap,.bool s.insert,.int .i64 s.shown]
theorem vN:(prog.info? 127).map (·.size)=some 17:=by kernel_rfl
theorem x_(s:TS):∀v∈M5 s,v.oneCell'=true:=by intro v hv;have:(M5 s).all (·.oneCell')=true:=rfl;exact List.all_eq_true.1 this v hv
theorem oQ(h:fn.results= #[.cell p ty])(tmps:Array Value)(w:World)(g:Nat)(cs:List Value)(t:TypeId)(fr:Nat × Nat)(hu:prog.underlying ty=some (.struct fs))(hi:(prog.info? ty).map (·.size)=some cs.length)(hp:tmps.getD p undef= .pointer (some ⟨g,0,none⟩))(hg:w.heap[g]? =some (.cells cs.toArray t fr)):(results fn tmps).run prog w= .ok (.agg cs.toArray) w:=
 results_cell_row h tmps w g t cs.toArray fr _ hp hg hu rfl (by simpa using hi)
theorem Im{q:Tmp}(h:fn.results= #[.cell p ty,.tmp q])(tmps:Array Value)(w:World)(g:Nat)(cs:List Value)(t:TypeId)(fr:Nat × Nat)(hu:prog.underlying ty=some (.struct fs))(hi:(prog.info? ty).map (·.size)=some cs.length)(hp:tmps.getD p undef= .pointer (some ⟨g,0,none⟩))(hg:w.heap[g]? =some (.cells cs.toArray t fr)):(results fn tmps).run prog w= .ok (.tuple #[.agg cs.toArray,tmps.getD q undef]) w:=by
 have hp':tmps[p]?.getD undef= .pointer (some ⟨g,0,none⟩):=by simpa using hp
 simp[results,h,hp',asAddr,run_loadVar_row w g t ty cs.toArray fr _ hg hu rfl (by simpa using hi)]
theorem zZ(L:Lay)(n:Int)(w:World):Calls prog 82 #[.pointer (some ⟨L.tb,0,none⟩),.int .i64 n] w fun e w'=>e= .returned (.bool (decide (0≤n∧n<2)))∧w'=w:=by
 by_cases h1:0≤n
 ·by_cases h2:n<2
  ·rw[mE (⟨h1,h2⟩:0≤n∧n<2)];go_enter func82,ntmps82;go_wp2_with fail;go_ret;exact⟨rfl,rfl⟩
  ·rw[mF (fun h:0≤n∧n<2=>h2 h.2)];have d2:decide (n<2)=false:=by simp;omega
   go_enter func82,ntmps82;go_wp2_with fail;go_ret;exact⟨rfl,rfl⟩
 ·rw[mF (fun h:0≤n∧n<2=>h1 h.1)];have d1:decide (0≤n)=false:=by simp;omega
  go_enter func82,ntmps82;go_wp2_with fail;go_ret;exact⟨rfl,rfl⟩
theorem Hr(L:Lay)(s:TS)(n:Int)(w:World)(ht:a_ w L s)(hi:s.Inv):Calls prog 83 #[.pointer (some ⟨L.tb,0,none⟩),.int .i64 n] w fun e w'=>e= .returned (.bool (decide (0≤n∧n<(s.rows:Int))))∧w'=w:=by
 have l1:=kT L s w ht hi;clear ht hi;by_cases h1:0≤n
 ·by_cases h2:n<(s.rows:Int)
  ·rw[mE (⟨h1,h2⟩:0≤n∧n<(s.rows:Int))];have h3:n≤(s.rows:Int)-1:=by omega
   clear h2;go_enter func83,ntmps83;go_wp2_with (go_at_call 138;refine l1.mono ?_;rintro e w1 ⟨rfl,hw1⟩;have hw2:=hw1.symm;subst hw2);go_ret;exact⟨rfl,rfl⟩
  ·rw[mF (fun h:0≤n∧n<(s.rows:Int)=>h2 h.2)];have d2:decide (n≤(s.rows:Int)-1)=false:=by simp;omega
   clear h2;go_enter func83,ntmps83;go_wp2_with (go_at_call 138;refine l1.mono ?_;rintro e w1 ⟨rfl,hw1⟩;have hw2:=hw1.symm;subst hw2);go_ret;exact⟨rfl,rfl⟩
 ·rw[mF (fun h:0≤n∧n<(s.rows:Int)=>h1 h.1)];have d1:decide (0≤n)=false:=by simp;omega
  go_enter func83,ntmps83;go_wp2_with fail;go_ret;exact⟨rfl,rfl⟩
theorem Hq(L:Lay)(s:TS)(n:Int)(w:World)(ht:a_ w L s)(hi:s.Inv):Calls prog 84 #[.pointer (some ⟨L.tb,0,none⟩),.int .i64 n] w fun e w'=>e= .returned (.bool (decide (0≤n∧n<(s.aa:Int))))∧w'=w:=by
 have l1:=jE L s w ht hi;clear ht hi;by_cases h1:0≤n
 ·by_cases h2:n<(s.aa:Int)
  ·rw[mE (⟨h1,h2⟩:0≤n∧n<(s.aa:Int))];have h3:n≤(s.aa:Int)-1:=by omega
   clear h2;go_enter func84,ntmps84;go_wp2_with (go_at_call 128;refine l1.mono ?_;rintro e w1 ⟨rfl,hw1⟩;have hw2:=hw1.symm;subst hw2);go_ret;exact⟨rfl,rfl⟩
  ·rw[mF (fun h:0≤n∧n<(s.aa:Int)=>h2 h.2)];have d2:decide (n≤(s.aa:Int)-1)=false:=by simp;omega
   clear h2;go_enter func84,ntmps84;go_wp2_with (go_at_call 128;refine l1.mono ?_;rintro e w1 ⟨rfl,hw1⟩;have hw2:=hw1.symm;subst hw2);go_ret;exact⟨rfl,rfl⟩
 ·rw[mF (fun h:0≤n∧n<(s.aa:Int)=>h1 h.1)];have d1:decide (0≤n)=false:=by simp;omega
  go_enter func84,ntmps84;go_wp2_with fail;go_ret;exact⟨rfl,rfl⟩
theorem rX(L:Lay)(s:TS)(w:World)(ht:a_ w L s):Calls prog 87 #[.pointer (some ⟨L.tb,0,none⟩)] w fun e w'=>e= .returned (.agg (M5 s).toArray)∧Sm w w':=by have HR:Hid (w.rangeAt L.tb 26 (M5 s)):=ht.range' 26 _ rfl;have hlt:=ht.lt;clear ht;go_enter func87,ntmps87;go_wp2_with (first|(refine qD rfl 127 (.tmp 5) rfl L.tb 26 rfl (M5 s) _ (World.rangeAt_alloc HR.o _) underlying127 rfl vN ?_)|(refine bY _ rfl 127 (.tmp 2) (.tmp 6) rfl w.heap.size [.int .i64 0,.int .i64 0,.bool false,.bool false,.bool false,.bool false,.int .i64 0,.int .i64 0,.int .i64 0,.int .i64 0,.int .i64 0,.bool false,.int .i64 0,.int .i64 0,.bool false,.bool false,.int .i64 0] (M5 s) rfl _ rfl rfl 127 (bJ _ _) rfl vN (x_ s) ?_));intro u2 g2 k2 z2;go_wp2_with fail;exact gL (oQ results87 _ _ w.heap.size (M5 s) 127 (0,0) underlying127 vN rfl g2) rfl ⟨rfl,((Ch.refl _ _).alloc _).trans' k2 (fun k hk e=>by omega)⟩
theorem zN(L:Lay)(s:TS)(n:Nat)(hn:n<2)(w:World)(ht:a_ w L s):Calls prog 142 #[.pointer (some ⟨L.tb,0,none⟩),.int .i64 (n:Int)] w fun e w'=>e= .returned (.agg (aN (s.dP n)).toArray)∧Sm w w':=by
 have hlt:=ht.lt;rcases(show n=0∨n=1 by omega)with rfl|rfl
 ·rw[show s.dP 0=s.v0 from rfl];have HR:Hid (w.rangeAt L.tb 1 (aN s.v0)):=ht.range' 1 _ rfl;clear ht;go_enter func142,ntmps142;go_wp2_with (first|(refine qD rfl 125 (.tmp 10) rfl L.tb 1 rfl (aN s.v0) _ (World.rangeAt_alloc HR.o _) underlying125 rfl bL ?_)|(refine bY _ rfl 125 (.tmp 4) (.tmp 11) rfl w.heap.size [.int .i64 0,.int .i64 0,.bool false,.bool false,.bool false,.bool false,.int .i64 0,.int .i64 0,.int .i64 0,.int .i64 0,.int .i64 0,.bool false] (aN s.v0) rfl _ rfl rfl 125 (bJ _ _) rfl bL (o7 _) ?_));intro u2 g2 k2 z2;go_wp2_with fail;exact gL (oQ results142 _ _ w.heap.size (aN s.v0) 125 (0,0) underlying125 bL rfl g2) rfl ⟨rfl,((Ch.refl _ _).alloc _).trans' k2 (fun k hk e=>by omega)⟩
 ·rw[show s.dP 1=s.v1 from rfl];have HR:Hid (w.rangeAt L.tb 14 (aN s.v1)):=ht.range' 14 _ rfl;clear ht;go_enter func142,ntmps142;go_wp2_with (first|(refine qD rfl 125 (.tmp 10) rfl L.tb 14 rfl (aN s.v1) _ (World.rangeAt_alloc HR.o _) underlying125 rfl bL ?_)|(refine bY _ rfl 125 (.tmp 4) (.tmp 11) rfl w.heap.size [.int .i64 0,.int .i64 0,.bool false,.bool false,.bool false,.bool false,.int .i64 0,.int .i64 0,.int .i64 0,.int .i64 0,.int .i64 0,.bool false] (aN s.v1) rfl _ rfl rfl 125 (bJ _ _) rfl bL (o7 _) ?_));intro u2 g2 k2 z2;go_wp2_with fail;exact gL (oQ results142 _ _ w.heap.size (aN s.v1) 125 (0,0) underlying125 bL rfl g2) rfl ⟨rfl,((Ch.refl _ _).alloc _).trans' k2 (fun k hk e=>by omega)⟩
end Go.Proofs.YtheibfffilomcabGreatDoor
