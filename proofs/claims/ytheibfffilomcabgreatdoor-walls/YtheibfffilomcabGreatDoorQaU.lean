import Derived.Test.YtheibfffilomcabGreatDoorEvnU
import Derived.Test.YtheibfffilomcabGreatDoorXbU
set_option linter.all false
set_option maxRecDepth 100000
set_option maxHeartbeats 2000000
namespace Go.Proofs.YtheibfffilomcabGreatDoor
open Go.RowKit Go.Proofs.Tryz
variable {w w':World} {v:Value} {fb:Nat} {L0 L:Lay} {cs:List Int} {x:agM} {fn:Func} {p:Tmp} {ty:TypeId} {fs:Array Field}
structure FI (w:World) (fb:Nat) (L0:Lay) (v:Value) (cs:List Int) (x:agM) (wr:World) (L:Lay):Prop where
 f:wU wr fb L x
 l:eu wr (fb+1) v cs
 Qp:L.tb=L0.tb
 ch:Ch (fun k=>k=fb∨L0.own k) w wr
 gr:∀k,L.own k→L0.own k∨w.heap.size≤k
 vn:∀k,v.ownBlock=some k→w.heap.size≤k∧¬L.own k
 tb:iE wr
 lo:2<fb∧fb<w.heap.size
theorem FI.vlt{wr:World}(h:FI w fb L0 v cs x wr L){k:Nat}(hk:v.ownBlock=some k):k<wr.heap.size:=((Jn h.l) k hk).2
theorem FI.same{wr:World}(h:FI w fb L0 v cs x wr L)(b:Below wr.heap.size wr w'):FI w fb L0 v cs x w' L:=
 ⟨h.f.kept (P:=fun _=>False) (Ch.of_below b) id (fun _ _=>id),h.l.below b,h.Qp,h.ch.trans (Ch.of_below b),h.gr,h.vn,h.tb.ch (P:=fun _=>False) (Ch.of_below b) (fun _ _=>id),h.lo⟩
theorem eu.blk{base:Nat}{L:List Int}(h:eu w base v L)(hb:∀k,v.ownBlock=some k→w'.heap[k]? =w.heap[k]?):eu w' base v L:=by
 obtain⟨h1,h2⟩:=h;refine⟨h1,?_⟩;rcases h2 with h2|⟨g,cap,cur,hv,hg,hblk,h5⟩
 ·exact .inl h2
 ·exact .inr ⟨g,cap,cur,hv,hg,(hb g (by rw[hv];rfl)).trans hblk,h5⟩
theorem FI.km{wr:World}(h:FI w fb L0 v cs x wr L)(k:Km fb 4 wr w'){m:MS}(hm:iD w' fb 4 m):FI w fb L0 v cs ⟨x.r,m,x.t⟩ w' L:=by have c:Ch (fun i=>i=fb) wr w':=⟨k.os,k.tape,k.output,k.size,fun i hi hn=>k.block i hi hn⟩;have hlo:=h.lo;exact⟨h.f.machine k hm,h.l.blk (fun i hi=>c.block i (h.vlt hi) (by have:=(h.vn i hi).1;omega)),h.Qp,h.ch.trans' c (fun i _ e=>.inl e),h.gr,h.vn,h.tb.ch c (fun i hi e=>by omega),h.lo⟩
theorem FI.next{wr:World}(h:FI w fb L0 v cs x wr L){t:TS}(n:Next L wr w' t):∃L',FI w fb L0 v cs ⟨x.r,x.m,t⟩ w' L':=by
 obtain⟨L',h1,h2,h3,h4⟩:=n;have hb:=h3.block fb h.f.lt h.f.no;have hlo:=h.lo;have hfl:=h.f.lt;refine⟨L',⟨h.f.rd.kept hb,h.f.ma.kept hb,by rw[h1];exact(eT hb).trans h.f.pt,h2,fun q=>?_,fun k hk=>?_⟩,h.l.blk (fun i hi=>h3.block i (h.vlt hi) (h.vn i hi).2),h1.trans h.Qp,h.ch.trans' h3 (fun i hi q=>?_),fun k hk=>?_,fun k hk=>⟨(h.vn k hk).1,fun q=>?_⟩,h.tb.ch h3 (fun i hi q=>?_),h.lo⟩
 ·rcases h4 fb q with q|q
  ·exact h.f.no q
  ·omega
 ·rcases h4 k hk with q|q
  ·exact h.f.hi k q
  ·omega
 ·rcases h.gr i q with e|e
  ·exact .inr e
  ·omega
 ·rcases h4 k hk with q|q
  ·exact h.gr k q
  ·exact .inr (fA h.ch.size q)
 ·rcases h4 k q with e|e
  ·exact(h.vn k hk).2 e
  ·have:=h.vlt hk;omega
 ·have:=h.f.hi i q;omega
theorem FI.read{wr:World}{v1:Value}{cs1:List Int}(h:FI w fb L0 v cs x wr L)(k:Kl v v1 fb 0 wr w'){r:RS}(hr:jc w' fb 0 r)(hl:eu w' (fb+1) v1 cs1):FI w fb L0 v1 cs1 ⟨r,x.m,x.t⟩ w' L:=by
 have c:Ch (fun i=>i=fb∨v.ownBlock=some i) wr w':=⟨k.os,k.tape,k.output,k.size,fun i hi hn=>k.block i hi (fun e=>hn (.inl e)) (fun e=>hn (.inr e))⟩;have hlo:=h.lo;refine⟨h.f.reader k hr (fun i hi e=>(h.vn i e).2 hi),hl,h.Qp,h.ch.trans' c (fun i hi q=>?_),h.gr,fun i hi=>?_,h.tb.ch c (fun i hi q=>?_),h.lo⟩
 ·rcases q with q|q
  ·exact .inl q
  ·have:=(h.vn i q).1;omega
 ·rcases k.own i hi with q|q
  ·exact h.vn i q
  ·exact⟨fA h.ch.size q,fun e=>by have:=h.f.te.jv e;omega⟩
 ·rcases q with q|q
  ·omega
  ·have:=(h.vn i q).1;omega
theorem FI.cut{wr:World}(h:FI w fb L0 v cs x wr L):∃ao n cap,v= .slice ao n cap∧(ao=none→n=0∧cap=0)∧n≤cap∧(∀b,ao=some b→b.off=0∧b.spot=none)∧FI w fb L0 (.slice ao 0 cap) [] x wr L:=by
 obtain⟨h1,h2⟩:=h.l;rcases h2 with⟨hv,hn⟩|⟨g,cap,cur,hv,hg,hblk,hn,hm,hcs,htake⟩
 ·subst hv;exact⟨none,0,0,rfl,fun _=>⟨rfl,rfl⟩,bE _,fun b hb=>(by cases hb),⟨h.f,World.ownsRow_nil _ _ _ _,h.Qp,h.ch,h.gr,h.vn,h.tb,h.lo⟩⟩
 ·subst hv;exact⟨some ⟨g,0,none⟩,cs.length,cap,rfl,fun e=>(by cases e),hn,fun b hb=>(by cases hb;exact⟨rfl,rfl⟩),⟨h.f,⟨rfl,.inr ⟨g,cap,cur,rfl,hg,hblk,jy _,hm,hcs,by simp⟩⟩,h.Qp,h.ch,h.gr,h.vn,h.tb,h.lo⟩⟩
theorem yP(fb:Nat)(L0:Lay)(x0:agM)(s:ByteArray)(w:World)(h:wU w fb L0 x0)(hok:x0.Ok)(htb:iE w)(vF:2<fb)(hs:s.size≤281474976710656):
 Calls prog 16 #[.pointer (some ⟨fb,0,none⟩),.string s] w fun e w'=>e= .returned (.tuple #[])∧∃v cs L,FI w fb L0 v cs (x0.feed (bl s)) w' L:=by
 have F0:FI w fb L0 (.slice none 0 0) [] x0 w L0:=⟨h,World.ownsRow_nil _ _ _ _,rfl,Ch.refl _ _,fun _ hk=>.inl hk,fun k hk=>(by cases hk),htb,vF,h.lt⟩;have HF0:Hid _:=F0;have HOK:Hid x0.Ok:=hok;have HB:Hid ((bl s).length=s.size):=oG s;have HBY:Hid (∀b∈bl s,0≤b∧b<256):=nJ s;clear h hok htb F0;go_enter func16,ntmps16;go_wp2_with fail;go_loopw [4,12] (fun v i wr=>∃(k:Nat) (cs:List Int) (L:Lay),k≤s.size∧i= .int .i64 k∧FI w fb L0 v cs (x0.feed ((bl s).take k)) wr L) (fun _ i _=>s.size-(intOf i).toNat)
 case atStart=>exact⟨0,[],L0,jy _,rfl,HF0.o⟩
 case round=>
  clear HF0;obtain⟨k,cs,L,hk,rfl,F⟩:=hrel;by_cases hlt:k<s.size
  ·have hxk:(x0.feed ((bl s).take k)).Ok:=HOK.o.feed _ (fun b hb=>HBY.o b (DL hb));have hbt:=QJ s k hlt;have hx1:(s[k]'hlt).toNat<256:=UInt8.toNat_lt _;have HS:Hid (x0.feed ((bl s).take (k+1))=(x0.feed ((bl s).take k)).byte ((s[k]'hlt).toNat:Int)):=by show _=_;rw[hbt,KY]
   clear hbt;generalize x0.feed ((bl s).take k)=x at*;obtain⟨ao,n,cap,rfl,hnone,aez,Ov,F⟩:=F.cut;have ik:(k:Int)<(s.size:Int):=by omega
   have hle1:jK wr:=F.tb.le;have hlo:=F.lo;have hsz:=F.ch.size;have lr:=MC (fb+1) fb 0 x.r ((s[k]'hlt).toNat:Int) (.slice ao 0 cap) [] ({wr with drawn:=wr.drawn+1}:World) (F.f.rd.kept rfl) hxk.r (by omega) (by omega) (hle1.kept rfl) (by omega) (by omega) (F.l.blk (fun _ _=>rfl)) (by simp) (by show fb+1≤wr.heap.size;omega);have HF:Hid _:=F;have HX:Hid x.Ok:=hxk;clear F hxk hle1;cases ao with
   |none=>
    obtain⟨rfl,rfl⟩:=hnone rfl;clear hnone Ov;go_wp2_with fail;refine fJ (S:=fun _=>True) bI ?_;refine aL 0 1 2 3 trivial ?_;simp only[ah,ag];refine ak 4 trivial ?_ (v:=.slice none 0 0);refine g_ 5 6 trivial ?_;refine ak 7 trivial ?_ (v:=.int .u8 ((s[k]'hlt).toNat:Int));simp only[ah,ag];refine aD 8 ?_;refine bR (R:=fun v w'=>FI w fb L0 v (x.r.take ((s[k]'hlt).toNat:Int)).2 ⟨(x.r.take ((s[k]'hlt).toNat:Int)).1,x.m,x.t⟩ w' L) (lr.mono fun e w' ⟨v1,q1,q2,q3,q4⟩=>⟨v1,q1,HF.o.read ⟨q4.os,q4.tape,q4.output,q4.size,q4.block,q4.cell,q4.frozen,q4.own⟩ q3 (by simpa using q2)⟩) ?_;intro v1 w1 F1;refine⟨trivial,?_⟩;clear lr HF;simp only[ah,ag];refine ak 9 trivial ?_;simp only[ah,ag];refine aM ?_;have hcb:=Du HX.o.r (b:=((s[k]'hlt).toNat:Int)) (by omega) (by omega);have hcl:=take_len x.r ((s[k]'hlt).toNat:Int);have HS2:Hid (x0.feed ((bl s).take (k+1))=agM.chars ⟨(x.r.take ((s[k]'hlt).toNat:Int)).1,x.m,x.t⟩ (x.r.take ((s[k]'hlt).toNat:Int)).2):=HS.o;have si:Hid (agM.Ok ⟨(x.r.take ((s[k]'hlt).toNat:Int)).1,x.m,x.t⟩):=⟨HX.o.r.take _,HX.o.m,HX.o.t⟩;clear HS HX;generalize (x.r.take ((s[k]'hlt).toNat:Int)).2=cs1 at*;generalize (⟨(x.r.take ((s[k]'hlt).toNat:Int)).1,x.m,x.t⟩:agM)=x1 at*;obtain⟨a1,c1,rfl,_⟩:=rq F1.l;have Dy:Hid _:=F1;clear F1;go_wp2_with fail;go_loopw [26] (fun i wq=>∃(j:Nat) (L:Lay),j≤cs1.length∧i= .int .i64 j∧FI w fb L0 (.slice a1 cs1.length c1) cs1 (x1.chars (cs1.take j)) wq L) (fun i _=>cs1.length-(intOf i).toNat)
    case atStart=>exact⟨0,L,jy _,rfl,Dy.o⟩
    case round=>
     clear Dy;obtain⟨j,L,hj,rfl,F⟩:=hrel;by_cases hlt2:j<cs1.length
     ·have ij:(j:Int)<(cs1.length:Int):=by omega
      obtain⟨_,_,ee,q⟩:=rq F.l;obtain⟨g,hg,cc⟩:=q j (.int .i64 cs1[j]) (by simp[gK hlt2]);cases ee;subst hg;have Ow:=hcb cs1[j] (Jp hlt2);have QA:Hid (x1.chars (cs1.take (j+1))=(x1.chars (cs1.take j)).char cs1[j]):=by show _=_;rw[yh hlt2,yJ]
      have hxk:(x1.chars (cs1.take j)).Ok:=si.o.chars _ (fun c hc=>hcb c (DL hc));generalize cs1[j]=c at*;generalize x1.chars (cs1.take j)=y at*;have gM:=wL hxk.m.len c;have Oy:=BN hxk.m c;have lm:=BO fb 4 y.m c _ F.f.ma hxk.m Ow.1 Ow.2;have HY:Hid (y.char c=⟨y.r,(y.m.take c).1,if(y.m.take c).2.2 then y.t.take (y.m.take c).2.1 else y.t⟩):=rfl;have HF:Hid _:=F;have HYK:Hid y.Ok:=hxk;have Wp:Hid _:=Oy;obtain⟨⟨m',EV,B⟩,hT⟩:∃z,y.m.take c=z:=⟨_,rfl⟩;rw[hT]at lm HY gM Wp;dsimp only at lm gM;clear F q hxk Oy hT;go_wp2_with fail;refine lm.mono ?_;rintro e u1 ⟨rfl,Rm,OL⟩;dsimp only;have F1:=HF.o.km OL Rm;have Dy:Hid _:=F1;clear F1 HF lm OL Rm;go_wp2_with (refine cZ _ rfl (.tmp 8) (.tmp 36) rfl u1.heap.size bG EV rfl _ rfl rfl gM 92 (bJ u1 _) rfl ?_);intro u2 DF Bq zu2;have r2:u1.grownBy u2 (some u1.heap.size):=pQ (World.grownBy_alloc u1 _ _) Bq;have F2:=Dy.o.same (w':=u2) ⟨r2.os,r2.tape,r2.output,r2.size,fun k hk=>r2.block k hk (fun e=>by simp at e;omega)⟩;have UO:¬L.own u1.heap.size:=fun e=>by have:=Dy.o.f.te.jv e;omega
      have hl2:u1.heap.size<u2.heap.size:=bM DF;have AO:Hid _:=F2;clear F2 Dy Bq r2;cases B with
      |false=>
       have Tq:Hid (x1.chars (cs1.take (j+1))=⟨y.r,m',y.t⟩):=QA.o.trans HY.o;clear QA HY;go_wp2_with fail;go_roundw
       case rel=>exact⟨j+1,L,by omega,by go_num,by rw[Tq.o];exact AO.o⟩
       case measure=>simp[intOf];omega
      |true=>
       have Tq:Hid (x1.chars (cs1.take (j+1))=⟨y.r,m',y.t.take EV⟩):=QA.o.trans HY.o;have lt:=BR L y.t ({u2 with drawn:=u2.drawn+1}:World) (AO.o.f.te.sm ((Ch.refl _ _).drewN 1)) HYK.o.t AO.o.f.hi (AO.o.tb.kept (fun _ _=>rfl)) EV (Wp.o rfl);have RG:∀u:World,u.heap[u1.heap.size]? =u2.heap[u1.heap.size]? →u.rangeAt u1.heap.size 0 (jV EV):=fun u hu i v hv=>by rw[dJ _ _ _ _ _ _ (hu.trans DF),lG];simpa[aO]using hv
       have HH:World.cell? ({u2 with drawn:=u2.drawn+1}:World) ⟨fb,23,none⟩=some (.pointer (some ⟨L.tb,0,none⟩))∧World.rangeAt ({u2 with drawn:=u2.drawn+1}:World) u1.heap.size 0 (jV EV):=⟨AO.o.f.pt,RG _ rfl⟩;clear QA HY;go_wp2_with fail;refine fJ (S:=fun x=>x.cell? ⟨fb,23,none⟩=some (.pointer (some ⟨L.tb,0,none⟩))∧x.rangeAt u1.heap.size 0 (jV EV)) bI ?_;refine aL 0 1 2 3 HH ?_;simp only[ah,ag];refine ak 4 HH ?_ (v:=.agg (aO EV)) (hy:=(ug (by rfl) 92 (.tmp 8) rfl u1.heap.size 0 rfl (jV EV) _ (fun x h=>h.2) underlying92 rfl (by rw[qP,gM];exact vM)));simp only[ah,ag];refine aD 5 ?_;refine bR (vs:=[.pointer (some ⟨L.tb,0,none⟩),.agg (aO EV)]) (R:=fun v w'=>v= .tuple #[]∧Next L u2 w' (y.t.take EV)) (lt.mono fun e w' ⟨q1,L',q2,q3,q4,q5⟩=>⟨_,q1,rfl,L',q2,q3,⟨q4.os,q4.tape,q4.output,q4.size,q4.block⟩,q5⟩) ?_;rintro v3 u3 ⟨rfl,nx⟩;have hk3:u3.heap[u1.heap.size]? =u2.heap[u1.heap.size]? :=by obtain⟨L',_,_,q,_⟩:=nx;exact q.block _ hl2 UO
       obtain⟨L',F3⟩:=AO.o.next nx;refine⟨⟨by rw[F3.f.pt,F3.Qp,AO.o.Qp],RG _ hk3⟩,?_⟩;clear lt HH;simp only[ah,ag];have HF3:Hid _:=F3;clear F3 nx AO RG hk3;refine aM ?_;go_wp2_with fail;go_roundw
       case rel=>exact⟨j+1,L',by omega,by go_num,by rw[Tq.o];exact HF3.o⟩
       case measure=>simp[intOf];omega
     ·have hjn:j=cs1.length:=by omega
      subst hjn;rw[List.take_length]at F;have HF:Hid _:=F;clear F;go_wp2_with fail;go_roundw
      case rel=>exact⟨k+1,cs1,L,by omega,by go_num,by rw[HS2.o];exact HF.o⟩
      case measure=>simp[intOf];omega
   |some ad=>
    obtain⟨g0,o0,sp0⟩:=ad;obtain⟨ho0,Y7⟩:=Ov _ rfl;dsimp only at ho0 Y7;subst ho0 Y7;clear hnone Ov;have ic:(0:Int)≤(cap:Int):=by omega
    go_wp2_with fail;refine fJ (S:=fun _=>True) bI ?_;refine aL 0 1 2 3 trivial ?_;simp only[ah,ag];refine ak 4 trivial ?_ (v:=.slice (some ⟨g0,0,none⟩) 0 cap);refine g_ 5 6 trivial ?_;refine ak 7 trivial ?_ (v:=.int .u8 ((s[k]'hlt).toNat:Int));simp only[ah,ag];refine aD 8 ?_;refine bR (R:=fun v w'=>FI w fb L0 v (x.r.take ((s[k]'hlt).toNat:Int)).2 ⟨(x.r.take ((s[k]'hlt).toNat:Int)).1,x.m,x.t⟩ w' L) (lr.mono fun e w' ⟨v1,q1,q2,q3,q4⟩=>⟨v1,q1,HF.o.read ⟨q4.os,q4.tape,q4.output,q4.size,q4.block,q4.cell,q4.frozen,q4.own⟩ q3 (by simpa using q2)⟩) ?_;intro v1 w1 F1;refine⟨trivial,?_⟩;clear lr HF;simp only[ah,ag];refine ak 9 trivial ?_;simp only[ah,ag];refine aM ?_;have hcb:=Du HX.o.r (b:=((s[k]'hlt).toNat:Int)) (by omega) (by omega);have hcl:=take_len x.r ((s[k]'hlt).toNat:Int);have HS2:Hid (x0.feed ((bl s).take (k+1))=agM.chars ⟨(x.r.take ((s[k]'hlt).toNat:Int)).1,x.m,x.t⟩ (x.r.take ((s[k]'hlt).toNat:Int)).2):=HS.o;have si:Hid (agM.Ok ⟨(x.r.take ((s[k]'hlt).toNat:Int)).1,x.m,x.t⟩):=⟨HX.o.r.take _,HX.o.m,HX.o.t⟩;clear HS HX;generalize (x.r.take ((s[k]'hlt).toNat:Int)).2=cs1 at*;generalize (⟨(x.r.take ((s[k]'hlt).toNat:Int)).1,x.m,x.t⟩:agM)=x1 at*;obtain⟨a1,c1,rfl,_⟩:=rq F1.l;have Dy:Hid _:=F1;clear F1;go_wp2_with fail;go_loopw [26] (fun i wq=>∃(j:Nat) (L:Lay),j≤cs1.length∧i= .int .i64 j∧FI w fb L0 (.slice a1 cs1.length c1) cs1 (x1.chars (cs1.take j)) wq L) (fun i _=>cs1.length-(intOf i).toNat)
    case atStart=>exact⟨0,L,jy _,rfl,Dy.o⟩
    case round=>
     clear Dy;obtain⟨j,L,hj,rfl,F⟩:=hrel;by_cases hlt2:j<cs1.length
     ·have ij:(j:Int)<(cs1.length:Int):=by omega
      obtain⟨_,_,ee,q⟩:=rq F.l;obtain⟨g,hg,cc⟩:=q j (.int .i64 cs1[j]) (by simp[gK hlt2]);cases ee;subst hg;have Ow:=hcb cs1[j] (Jp hlt2);have QA:Hid (x1.chars (cs1.take (j+1))=(x1.chars (cs1.take j)).char cs1[j]):=by show _=_;rw[yh hlt2,yJ]
      have hxk:(x1.chars (cs1.take j)).Ok:=si.o.chars _ (fun c hc=>hcb c (DL hc));generalize cs1[j]=c at*;generalize x1.chars (cs1.take j)=y at*;have gM:=wL hxk.m.len c;have Oy:=BN hxk.m c;have lm:=BO fb 4 y.m c _ F.f.ma hxk.m Ow.1 Ow.2;have HY:Hid (y.char c=⟨y.r,(y.m.take c).1,if(y.m.take c).2.2 then y.t.take (y.m.take c).2.1 else y.t⟩):=rfl;have HF:Hid _:=F;have HYK:Hid y.Ok:=hxk;have Wp:Hid _:=Oy;obtain⟨⟨m',EV,B⟩,hT⟩:∃z,y.m.take c=z:=⟨_,rfl⟩;rw[hT]at lm HY gM Wp;dsimp only at lm gM;clear F q hxk Oy hT;go_wp2_with fail;refine lm.mono ?_;rintro e u1 ⟨rfl,Rm,OL⟩;dsimp only;have F1:=HF.o.km OL Rm;have Dy:Hid _:=F1;clear F1 HF lm OL Rm;go_wp2_with (refine cZ _ rfl (.tmp 8) (.tmp 36) rfl u1.heap.size bG EV rfl _ rfl rfl gM 92 (bJ u1 _) rfl ?_);intro u2 DF Bq zu2;have r2:u1.grownBy u2 (some u1.heap.size):=pQ (World.grownBy_alloc u1 _ _) Bq;have F2:=Dy.o.same (w':=u2) ⟨r2.os,r2.tape,r2.output,r2.size,fun k hk=>r2.block k hk (fun e=>by simp at e;omega)⟩;have UO:¬L.own u1.heap.size:=fun e=>by have:=Dy.o.f.te.jv e;omega
      have hl2:u1.heap.size<u2.heap.size:=bM DF;have AO:Hid _:=F2;clear F2 Dy Bq r2;cases B with
      |false=>
       have Tq:Hid (x1.chars (cs1.take (j+1))=⟨y.r,m',y.t⟩):=QA.o.trans HY.o;clear QA HY;go_wp2_with fail;go_roundw
       case rel=>exact⟨j+1,L,by omega,by go_num,by rw[Tq.o];exact AO.o⟩
       case measure=>simp[intOf];omega
      |true=>
       have Tq:Hid (x1.chars (cs1.take (j+1))=⟨y.r,m',y.t.take EV⟩):=QA.o.trans HY.o;have lt:=BR L y.t ({u2 with drawn:=u2.drawn+1}:World) (AO.o.f.te.sm ((Ch.refl _ _).drewN 1)) HYK.o.t AO.o.f.hi (AO.o.tb.kept (fun _ _=>rfl)) EV (Wp.o rfl);have RG:∀u:World,u.heap[u1.heap.size]? =u2.heap[u1.heap.size]? →u.rangeAt u1.heap.size 0 (jV EV):=fun u hu i v hv=>by rw[dJ _ _ _ _ _ _ (hu.trans DF),lG];simpa[aO]using hv
       have HH:World.cell? ({u2 with drawn:=u2.drawn+1}:World) ⟨fb,23,none⟩=some (.pointer (some ⟨L.tb,0,none⟩))∧World.rangeAt ({u2 with drawn:=u2.drawn+1}:World) u1.heap.size 0 (jV EV):=⟨AO.o.f.pt,RG _ rfl⟩;clear QA HY;go_wp2_with fail;refine fJ (S:=fun x=>x.cell? ⟨fb,23,none⟩=some (.pointer (some ⟨L.tb,0,none⟩))∧x.rangeAt u1.heap.size 0 (jV EV)) bI ?_;refine aL 0 1 2 3 HH ?_;simp only[ah,ag];refine ak 4 HH ?_ (v:=.agg (aO EV)) (hy:=(ug (by rfl) 92 (.tmp 8) rfl u1.heap.size 0 rfl (jV EV) _ (fun x h=>h.2) underlying92 rfl (by rw[qP,gM];exact vM)));simp only[ah,ag];refine aD 5 ?_;refine bR (vs:=[.pointer (some ⟨L.tb,0,none⟩),.agg (aO EV)]) (R:=fun v w'=>v= .tuple #[]∧Next L u2 w' (y.t.take EV)) (lt.mono fun e w' ⟨q1,L',q2,q3,q4,q5⟩=>⟨_,q1,rfl,L',q2,q3,⟨q4.os,q4.tape,q4.output,q4.size,q4.block⟩,q5⟩) ?_;rintro v3 u3 ⟨rfl,nx⟩;have hk3:u3.heap[u1.heap.size]? =u2.heap[u1.heap.size]? :=by obtain⟨L',_,_,q,_⟩:=nx;exact q.block _ hl2 UO
       obtain⟨L',F3⟩:=AO.o.next nx;refine⟨⟨by rw[F3.f.pt,F3.Qp,AO.o.Qp],RG _ hk3⟩,?_⟩;clear lt HH;simp only[ah,ag];have HF3:Hid _:=F3;clear F3 nx AO RG hk3;refine aM ?_;go_wp2_with fail;go_roundw
       case rel=>exact⟨j+1,L',by omega,by go_num,by rw[Tq.o];exact HF3.o⟩
       case measure=>simp[intOf];omega
     ·have hjn:j=cs1.length:=by omega
      subst hjn;rw[List.take_length]at F;have HF:Hid _:=F;clear F;go_wp2_with fail;go_roundw
      case rel=>exact⟨k+1,cs1,L,by omega,by go_num,by rw[HS2.o];exact HF.o⟩
      case measure=>simp[intOf];omega
  ·have hkn:k=s.size:=by omega
   subst hkn;have hba:=Tz s;rw[hba]at F;have HF:Hid _:=F;clear F hba;go_wp2_with fail;go_end0;exact⟨rfl,_,cs,L,HF.o⟩
def TS.cellAt (t:TS) (n i k:Nat):aC:=((if n=0 then t.s0 else t.s1).getD i []).getD k aQ
def TS.dP (t:TS) (n:Nat):dQ:=if n=0 then t.v0 else t.v1
def M0 (s:TS):List Value:=aN s.spot++[.int .i64 s.top,.int .i64 s.bottom,.bool s.wrap,.bool s.insert,.int .i64 s.shown]
theorem vN:(prog.info? 127).map (·.size)=some 17:=by kernel_rfl
theorem x_(s:TS):∀v∈M0 s,v.oneCell'=true:=by intro v hv;have:(M0 s).all (·.oneCell')=true:=rfl;exact List.all_eq_true.1 this v hv
theorem oQ(h:fn.results= #[.cell p ty])(tmps:Array Value)(w:World)(g:Nat)(cs:List Value)(t:TypeId)(fr:Nat × Nat)(hu:prog.underlying ty=some (.struct fs))(hi:(prog.info? ty).map (·.size)=some cs.length)(hp:tmps.getD p undef= .pointer (some ⟨g,0,none⟩))(hg:w.heap[g]? =some (.cells cs.toArray t fr)):(results fn tmps).run prog w= .ok (.agg cs.toArray) w:=
 results_cell_row h tmps w g t cs.toArray fr _ hp hg hu rfl (by simpa using hi)
theorem Ik{q:Tmp}(h:fn.results= #[.cell p ty,.tmp q])(tmps:Array Value)(w:World)(g:Nat)(cs:List Value)(t:TypeId)(fr:Nat × Nat)(hu:prog.underlying ty=some (.struct fs))(hi:(prog.info? ty).map (·.size)=some cs.length)(hp:tmps.getD p undef= .pointer (some ⟨g,0,none⟩))(hg:w.heap[g]? =some (.cells cs.toArray t fr)):(results fn tmps).run prog w= .ok (.tuple #[.agg cs.toArray,tmps.getD q undef]) w:=by
 have hp':tmps[p]?.getD undef= .pointer (some ⟨g,0,none⟩):=by simpa using hp
 simp[results,h,hp',asAddr,run_loadVar_row w g t ty cs.toArray fr _ hg hu rfl (by simpa using hi)]
theorem zY(L:Lay)(n:Int)(w:World):Calls prog 82 #[.pointer (some ⟨L.tb,0,none⟩),.int .i64 n] w fun e w'=>e= .returned (.bool (decide (0≤n∧n<2)))∧w'=w:=by
 by_cases h1:0≤n
 ·by_cases h2:n<2
  ·rw[mE (⟨h1,h2⟩:0≤n∧n<2)];go_enter func82,ntmps82;go_wp2_with fail;go_ret;exact⟨rfl,rfl⟩
  ·rw[mF (fun h:0≤n∧n<2=>h2 h.2)];have d2:decide (n<2)=false:=by simp;omega
   go_enter func82,ntmps82;go_wp2_with fail;go_ret;exact⟨rfl,rfl⟩
 ·rw[mF (fun h:0≤n∧n<2=>h1 h.1)];have d1:decide (0≤n)=false:=by simp;omega
  go_enter func82,ntmps82;go_wp2_with fail;go_ret;exact⟨rfl,rfl⟩
theorem Ho(L:Lay)(s:TS)(n:Int)(w:World)(ht:a_ w L s)(hi:s.Inv):Calls prog 83 #[.pointer (some ⟨L.tb,0,none⟩),.int .i64 n] w fun e w'=>e= .returned (.bool (decide (0≤n∧n<(s.rows:Int))))∧w'=w:=by
 have l1:=kT L s w ht hi;clear ht hi;by_cases h1:0≤n
 ·by_cases h2:n<(s.rows:Int)
  ·rw[mE (⟨h1,h2⟩:0≤n∧n<(s.rows:Int))];have h3:n≤(s.rows:Int)-1:=by omega
   clear h2;go_enter func83,ntmps83;go_wp2_with (go_at_call 138;refine l1.mono ?_;rintro e w1 ⟨rfl,hw1⟩;have hw2:=hw1.symm;subst hw2);go_ret;exact⟨rfl,rfl⟩
  ·rw[mF (fun h:0≤n∧n<(s.rows:Int)=>h2 h.2)];have d2:decide (n≤(s.rows:Int)-1)=false:=by simp;omega
   clear h2;go_enter func83,ntmps83;go_wp2_with (go_at_call 138;refine l1.mono ?_;rintro e w1 ⟨rfl,hw1⟩;have hw2:=hw1.symm;subst hw2);go_ret;exact⟨rfl,rfl⟩
 ·rw[mF (fun h:0≤n∧n<(s.rows:Int)=>h1 h.1)];have d1:decide (0≤n)=false:=by simp;omega
  go_enter func83,ntmps83;go_wp2_with fail;go_ret;exact⟨rfl,rfl⟩
theorem Hl(L:Lay)(s:TS)(n:Int)(w:World)(ht:a_ w L s)(hi:s.Inv):Calls prog 84 #[.pointer (some ⟨L.tb,0,none⟩),.int .i64 n] w fun e w'=>e= .returned (.bool (decide (0≤n∧n<(s.aa:Int))))∧w'=w:=by
 have l1:=jE L s w ht hi;clear ht hi;by_cases h1:0≤n
 ·by_cases h2:n<(s.aa:Int)
  ·rw[mE (⟨h1,h2⟩:0≤n∧n<(s.aa:Int))];have h3:n≤(s.aa:Int)-1:=by omega
   clear h2;go_enter func84,ntmps84;go_wp2_with (go_at_call 128;refine l1.mono ?_;rintro e w1 ⟨rfl,hw1⟩;have hw2:=hw1.symm;subst hw2);go_ret;exact⟨rfl,rfl⟩
  ·rw[mF (fun h:0≤n∧n<(s.aa:Int)=>h2 h.2)];have d2:decide (n≤(s.aa:Int)-1)=false:=by simp;omega
   clear h2;go_enter func84,ntmps84;go_wp2_with (go_at_call 128;refine l1.mono ?_;rintro e w1 ⟨rfl,hw1⟩;have hw2:=hw1.symm;subst hw2);go_ret;exact⟨rfl,rfl⟩
 ·rw[mF (fun h:0≤n∧n<(s.aa:Int)=>h1 h.1)];have d1:decide (0≤n)=false:=by simp;omega
  go_enter func84,ntmps84;go_wp2_with fail;go_ret;exact⟨rfl,rfl⟩
theorem rX(L:Lay)(s:TS)(w:World)(ht:a_ w L s):Calls prog 87 #[.pointer (some ⟨L.tb,0,none⟩)] w fun e w'=>e= .returned (.agg (M0 s).toArray)∧Sm w w':=by have HR:Hid (w.rangeAt L.tb 26 (M0 s)):=ht.range' 26 _ rfl;have hlt:=ht.lt;clear ht;go_enter func87,ntmps87;go_wp2_with (first|(refine qD rfl 127 (.tmp 5) rfl L.tb 26 rfl (M0 s) _ (World.rangeAt_alloc HR.o _) underlying127 rfl vN ?_)|(refine bY _ rfl 127 (.tmp 2) (.tmp 6) rfl w.heap.size [.int .i64 0,.int .i64 0,.bool false,.bool false,.bool false,.bool false,.int .i64 0,.int .i64 0,.int .i64 0,.int .i64 0,.int .i64 0,.bool false,.int .i64 0,.int .i64 0,.bool false,.bool false,.int .i64 0] (M0 s) rfl _ rfl rfl 127 (bJ _ _) rfl vN (x_ s) ?_));intro u2 g2 k2 z2;go_wp2_with fail;exact gL (oQ results87 _ _ w.heap.size (M0 s) 127 (0,0) underlying127 vN rfl g2) rfl ⟨rfl,((Ch.refl _ _).alloc _).trans' k2 (fun k hk e=>by omega)⟩
theorem zM(L:Lay)(s:TS)(n:Nat)(hn:n<2)(w:World)(ht:a_ w L s):Calls prog 142 #[.pointer (some ⟨L.tb,0,none⟩),.int .i64 (n:Int)] w fun e w'=>e= .returned (.agg (aN (s.dP n)).toArray)∧Sm w w':=by
 have hlt:=ht.lt;rcases(show n=0∨n=1 by omega)with rfl|rfl
 ·rw[show s.dP 0=s.v0 from rfl];have HR:Hid (w.rangeAt L.tb 1 (aN s.v0)):=ht.range' 1 _ rfl;clear ht;go_enter func142,ntmps142;go_wp2_with (first|(refine qD rfl 125 (.tmp 10) rfl L.tb 1 rfl (aN s.v0) _ (World.rangeAt_alloc HR.o _) underlying125 rfl bL ?_)|(refine bY _ rfl 125 (.tmp 4) (.tmp 11) rfl w.heap.size [.int .i64 0,.int .i64 0,.bool false,.bool false,.bool false,.bool false,.int .i64 0,.int .i64 0,.int .i64 0,.int .i64 0,.int .i64 0,.bool false] (aN s.v0) rfl _ rfl rfl 125 (bJ _ _) rfl bL (o7 _) ?_));intro u2 g2 k2 z2;go_wp2_with fail;exact gL (oQ results142 _ _ w.heap.size (aN s.v0) 125 (0,0) underlying125 bL rfl g2) rfl ⟨rfl,((Ch.refl _ _).alloc _).trans' k2 (fun k hk e=>by omega)⟩
 ·rw[show s.dP 1=s.v1 from rfl];have HR:Hid (w.rangeAt L.tb 14 (aN s.v1)):=ht.range' 14 _ rfl;clear ht;go_enter func142,ntmps142;go_wp2_with (first|(refine qD rfl 125 (.tmp 10) rfl L.tb 14 rfl (aN s.v1) _ (World.rangeAt_alloc HR.o _) underlying125 rfl bL ?_)|(refine bY _ rfl 125 (.tmp 4) (.tmp 11) rfl w.heap.size [.int .i64 0,.int .i64 0,.bool false,.bool false,.bool false,.bool false,.int .i64 0,.int .i64 0,.int .i64 0,.int .i64 0,.int .i64 0,.bool false] (aN s.v1) rfl _ rfl rfl 125 (bJ _ _) rfl bL (o7 _) ?_));intro u2 g2 k2 z2;go_wp2_with fail;exact gL (oQ results142 _ _ w.heap.size (aN s.v1) 125 (0,0) underlying125 bL rfl g2) rfl ⟨rfl,((Ch.refl _ _).alloc _).trans' k2 (fun k hk e=>by omega)⟩
theorem mD(L:Lay)(s:TS)(n i k:Nat)(hn:n<2)(hi:i<s.rows)(hk:k<s.aa)(w:World)(ht:a_ w L s)(hI:s.Inv):Calls prog 85 #[.pointer (some ⟨L.tb,0,none⟩),.int .i64 (n:Int),.int .i64 (i:Int),.int .i64 (k:Int)] w fun e w'=>e= .returned (.agg (bO (s.cellAt n i k)))∧Sm w w':=by
 have hlt:=ht.lt;have ii:(i:Int)<(s.rows:Int):=by omega
 have ik:(k:Int)<(s.aa:Int):=by omega
 obtain⟨sb,off,g,c0,hcell,hsb,hrow,hget,hoff⟩:∃sb off g,w.cell? ⟨L.tb,off,none⟩=some (.slice (some ⟨sb,0,none⟩) s.rows s.rows)∧w.cell? ⟨sb,i,none⟩=some (.slice (some ⟨g,0,none⟩) s.aa s.aa)∧sb<w.heap.size∧
  aK (w.alloc (.cells (bO jU) 104)) g ((if n=0 then s.s0 else s.s1).getD i [])∧((if n=0 then s.s0 else s.s1).getD i [])[k]? =some (s.cellAt n i k)∧off=n*13:=by
  have key:∀(S:bK) (r:List aC),r.length=s.aa→r=S.getD i []→r[k]? =some ((S.getD i []).getD k aQ):=fun S r hr e=>by rw[←e];simp[List.getD,gK (show k<r.length by omega)]
  rcases(show n=0∨n=1 by omega)with rfl|rfl
  ·obtain⟨g,_,h2,h3,h4⟩:=ht.h0.get (i:=i) (by rw[hI.l0];exact hi);exact⟨L.sb0,0,g,ht.c 0 _ rfl,h2,ht.h0.lt,h3.kept (h_ _ _ _ h3.lt),key s.s0 _ h4 rfl,rfl⟩
  ·obtain⟨g,_,h2,h3,h4⟩:=ht.h1.get (i:=i) (by rw[hI.l1];exact hi);exact⟨L.sb1,13,g,ht.c 13 _ rfl,h2,ht.h1.lt,h3.kept (h_ _ _ _ h3.lt),key s.s1 _ h4 rfl,rfl⟩
 generalize s.cellAt n i k=c at*;generalize (if n=0 then s.s0 else s.s1).getD i []=r at*;have HR:Hid (aK (w.alloc (.cells (bO jU) 104)) g r):=hrow;have HG:Hid _:=hget;clear ht hI hrow hget;rcases(show n=0∨n=1 by omega)with rfl|rfl
 ·subst hoff;go_enter func85,ntmps85;go_wp2_with (first|(refine zQ _ rfl (.tmp 20) rfl g (k*7) k r c rfl rfl HR.o HG.o ?_)|(refine bY _ rfl 104 (.tmp 8) (.tmp 21) rfl w.heap.size (cellV jU) (cellV c) rfl _ rfl rfl 104 (bJ _ _) rfl eF (gF c) ?_));intro u2 g2 k2 z2;go_wp2_with fail;exact gL (oQ results85 _ _ w.heap.size (cellV c) 104 (0,0) underlying104 eF rfl g2) rfl ⟨rfl,((Ch.refl _ _).alloc _).trans' k2 (fun k hk e=>by omega)⟩
 ·subst hoff;go_enter func85,ntmps85;go_wp2_with (first|(refine zQ _ rfl (.tmp 20) rfl g (k*7) k r c rfl rfl HR.o HG.o ?_)|(refine bY _ rfl 104 (.tmp 8) (.tmp 21) rfl w.heap.size (cellV jU) (cellV c) rfl _ rfl rfl 104 (bJ _ _) rfl eF (gF c) ?_));intro u2 g2 k2 z2;go_wp2_with fail;exact gL (oQ results85 _ _ w.heap.size (cellV c) 104 (0,0) underlying104 eF rfl g2) rfl ⟨rfl,((Ch.refl _ _).alloc _).trans' k2 (fun k hk e=>by omega)⟩
theorem QL(fb:Nat)(L:Lay)(x:agM)(n i k:Nat)(hn:n<2)(hi:i<x.t.rows)(hk:k<x.t.aa)(w:World)(h:wU w fb L x)(hI:x.t.Inv):Calls prog 48 #[.pointer (some ⟨fb,0,none⟩),.int .i64 (n:Int),.int .i64 (i:Int),.int .i64 (k:Int)] w fun e w'=>e= .returned (.tuple #[.agg (bO (x.t.cellAt n i k)),.int .i64 0])∧Sm w w':=by have hpt:=h.pt;have hfl:=h.lt;have T:∀o,a_ (w.alloc o) L x.t:=fun o=>h.te.sm ((Ch.refl _ _).alloc _);have l0:∀o,_:=fun o=>zY L (n:Int) (w.alloc o);rw[mE (show 0≤(n:Int)∧(n:Int)<2 by omega)]at l0;have l2:∀o,_:=fun o=>Ho L x.t (i:Int) (w.alloc o) (T o) hI;rw[mE (show 0≤(i:Int)∧(i:Int)<(x.t.rows:Int) by omega)]at l2;have l3:∀o,_:=fun o=>Hl L x.t (k:Int) (w.alloc o) (T o) hI;rw[mE (show 0≤(k:Int)∧(k:Int)<(x.t.aa:Int) by omega)]at l3;have l1:∀o,_:=fun o=>mD L x.t n i k hn hi hk (w.alloc o) (T o) hI;generalize x.t.cellAt n i k=c at*;clear h hI T;go_enter func48,ntmps48;go_wp2_with (first|(go_at_call 82;refine(l0 _).mono ?_;rintro e w1 ⟨rfl,hw1⟩;subst hw1)|(go_at_call 83;refine(l2 _).mono ?_;rintro e w1 ⟨rfl,hw1⟩;subst hw1)|(go_at_call 84;refine(l3 _).mono ?_;rintro e w1 ⟨rfl,hw1⟩;subst hw1)|(go_at_call 85;refine(l1 _).mono ?_;rintro e w1 ⟨rfl,s1⟩)|(refine bY _ rfl 104 (.tmp 8) (.tmp 43) rfl w.heap.size (cellV jU) (cellV c) rfl _ rfl rfl 104 ((s1.block _ (by simp) id).trans (bJ _ _)) rfl eF (gF c) ?_));intro u2 g2 k2 z2;go_wp2_with fail;exact gL (Ik results48 _ _ w.heap.size (cellV c) 104 (0,0) underlying104 eF rfl g2) rfl ⟨rfl,(((Ch.refl _ _).alloc _).trans s1).trans' k2 (fun k hk e=>by omega)⟩
theorem F9(L:Lay)(s:TS)(k:Nat)(hk:k<s.aa)(w:World)(ht:a_ w L s)(hI:s.Inv):Calls prog 92 #[.pointer (some ⟨L.tb,0,none⟩),.int .i64 (k:Int)] w fun e w'=>e= .returned (.bool (s.tabs.getD k false))∧w'=w:=by
 have c43:=ht.c 43 _ rfl;have ik:(k:Int)<(s.aa:Int):=by omega
 have hcell:w.cell? ⟨L.gb,k,none⟩=some (.bool (s.tabs.getD k false)):=by
  rw[dJ _ _ _ _ _ _ ht.tab];have:k<s.tabs.length:=by rw[hI.lt];exact hk
  simp[List.getD,gK this]
 generalize s.tabs.getD k false=b at*;clear ht hI;go_enter func92,ntmps92;go_wp2_with fail;go_ret;exact⟨rfl,rfl⟩
theorem agM.Ok.fresh{rows aa:Nat}(hr:1≤rows∧rows≤12)(hc:1≤aa∧aa≤40):(agM.fresh rows aa).Ok:=⟨RS.ok.zero,MS.ok.zero,TS.Inv.fresh hr hc⟩
theorem Ht(rows aa:Nat)(w:World)(hr:1≤rows∧rows≤12)(hc:1≤aa∧aa≤40):Calls prog 11 #[.int .i64 (rows:Int),.int .i64 (aa:Int)] w fun e w'=>e= .returned (.bool true)∧w'=w:=by
 have d1:(1:Int)≤(rows:Int):=by omega
 have d2:(rows:Int)≤12:=by omega
 have d3:(1:Int)≤(aa:Int):=by omega
 have d4:(aa:Int)≤40:=by omega
 go_enter func11,ntmps11;go_wp2_with fail;go_ret;exact⟨rfl,rfl⟩
theorem yC(rows aa:Nat)(w:World)(hr:1≤rows∧rows≤12)(hc:1≤aa∧aa≤40)(hs:2<w.heap.size):Calls prog 15 #[.int .i64 (rows:Int),.int .i64 (aa:Int)] w fun e w'=>∃fb L,e= .returned (.pointer (some ⟨fb,0,none⟩))∧wU w' fb L (agM.fresh rows aa)∧w.heap.size≤fb∧(∀k,L.own k→w.heap.size≤k)∧Below w.heap.size w w':=by
 have l1:=F8 rows aa w hr hc;go_enter func15,ntmps15;go_wp2_with (go_at_call 38;refine l1.mono ?_;rintro e w1 ⟨L,rfl,t1,o1,b1⟩);go_ret;refine⟨w1.heap.size,L,rfl,?_,b1.size,o1,b1.alloc b1.size _⟩;have hb:=bJ w1 (.cells #[.int .i64 0,.int .u8 0,.int .u8 0,.int .i64 0,.int .i64 0,.int .i64 0,.int .i64 0,.int .i64 0,.int .i64 0,.int .i64 0,.int .i64 0,.int .i64 0,.int .i64 0,.int .i64 0,.int .i64 0,.int .i64 0,.int .i64 0,.int .i64 0,.int .i64 0,.int .i64 0,.int .i64 0,.int .i64 0,.int .i64 0,.pointer (some ⟨L.tb,0,none⟩)] 62);have cell:∀j v,(#[.int .i64 0,.int .u8 0,.int .u8 0,.int .i64 0,.int .i64 0,.int .i64 0,.int .i64 0,.int .i64 0,.int .i64 0,.int .i64 0,.int .i64 0,.int .i64 0,.int .i64 0,.int .i64 0,.int .i64 0,.int .i64 0,.int .i64 0,.int .i64 0,.int .i64 0,.int .i64 0,.int .i64 0,.int .i64 0,.int .i64 0,.pointer (some ⟨L.tb,0,none⟩)]:Array Value)[j]? =some v→World.cell? (w1.alloc (.cells #[.int .i64 0,.int .u8 0,.int .u8 0,.int .i64 0,.int .i64 0,.int .i64 0,.int .i64 0,.int .i64 0,.int .i64 0,.int .i64 0,.int .i64 0,.int .i64 0,.int .i64 0,.int .i64 0,.int .i64 0,.int .i64 0,.int .i64 0,.int .i64 0,.int .i64 0,.int .i64 0,.int .i64 0,.int .i64 0,.int .i64 0,.pointer (some ⟨L.tb,0,none⟩)] 62)) ⟨w1.heap.size,j,none⟩=some v:=fun j v hv=>by rw[dJ _ _ _ _ _ _ hb];exact hv
 refine⟨⟨cell 0 _ rfl,cell 1 _ rfl,cell 2 _ rfl,cell 3 _ rfl,fun j _=>ou _ _ _ _ _ hb⟩,⟨rfl,fun j v hv=>?_,fun j _=>ou _ _ _ _ _ hb⟩,cell 23 _ rfl,t1.sm ((Ch.refl _ _).alloc _),fun e=>by have:=t1.jv e;omega,fun k hk=>by have:=o1 k hk;omega⟩;have hj:j<19:=(ja.1 hv).1;have hv0:v= .int .i64 0:=by rcases(show j=0∨j=1∨j=2∨j=3∨j=4∨j=5∨j=6∨j=7∨j=8∨j=9∨j=10∨j=11∨j=12∨j=13∨j=14∨j=15∨j=16∨j=17∨j=18 by omega)with rfl|rfl|rfl|rfl|rfl|rfl|rfl|rfl|rfl|rfl|rfl|rfl|rfl|rfl|rfl|rfl|rfl|rfl|rfl<;>exact(dI hv).symm
 subst hv0;rcases(show j=0∨j=1∨j=2∨j=3∨j=4∨j=5∨j=6∨j=7∨j=8∨j=9∨j=10∨j=11∨j=12∨j=13∨j=14∨j=15∨j=16∨j=17∨j=18 by omega)with rfl|rfl|rfl|rfl|rfl|rfl|rfl|rfl|rfl|rfl|rfl|rfl|rfl|rfl|rfl|rfl|rfl|rfl|rfl<;>exact cell _ _ rfl
theorem Kb(rows aa:Nat)(w:World)(hr:1≤rows∧rows≤12)(hc:1≤aa∧aa≤40)(hs:2<w.heap.size):Calls prog 47 #[.int .i64 (rows:Int),.int .i64 (aa:Int)] w fun e w'=>∃fb L,e= .returned (.tuple #[.pointer (some ⟨fb,0,none⟩),.int .i64 0])∧wU w' fb L (agM.fresh rows aa)∧w.heap.size≤fb∧(∀k,L.own k→w.heap.size≤k)∧Below w.heap.size w w':=by have l0:=Ht rows aa w hr hc;have l1:=yC rows aa w hr hc hs;go_enter func47,ntmps47;go_wp2_with (first|(go_at_call 11;refine l0.mono ?_;rintro e w1 ⟨rfl,hw1⟩;have hw2:=hw1.symm;subst hw2)|(go_at_call 15;refine l1.mono ?_;rintro e w1 ⟨fb,L,rfl,h1⟩));go_ret2;exact⟨fb,L,rfl,h1⟩
namespace TS
def Qo (s:TS):Nat × Nat:=(s.rows,s.aa)
theorem GV(s:TS)(S:bK):(s.setCur S).Qo=s.Qo:=by unfold setCur;split<;>rfl
theorem Cr(s:TS)(n:Nat):(s.fe n).Qo=s.Qo:=GV _ _
theorem Oa(s:TS):s.down.Qo=s.Qo:=by unfold down;split<;>first|exact Cr _ _|rfl
theorem Cq(s:TS):s.aT.Qo=s.Qo:=Oa _
theorem GU(s:TS):s.dS.Qo=s.Qo:=by unfold dS;split<;>first|exact Cq _|rfl
end TS
def RS.Low (s:RS):Prop:=s.m≠0→128≤s.lo
theorem OP{b:Int}{r:RS}(h:lead b=some r):r.Low:=by
 unfold lead at h
 repeat' split at h
 all_goals first|(cases h;done)|(cases h;intro _;dsimp only;omega)
theorem RS.Low.zero:RS.zero.Low:=fun h=>absurd rfl h
theorem RS.Low.sw{s:RS}(h:s.Low)(b:Int):(s.sw b).1.Low:=by
 unfold RS.sw;split
 ·exact h
 ·split
  ·rename_i r hr;exact OP hr
  ·exact h
theorem RS.Low.take{s:RS}(h:s.Low)(b:Int):(s.take b).1.Low:=by
 unfold RS.take;split
 ·exact h.sw b
 ·split
  ·have hf:s.fin.1.Low:=by
    unfold RS.fin;split
    ·exact h
    ·exact RS.Low.zero
   exact hf.sw b
  ·unfold RS.join;split
   ·exact RS.Low.zero
   ·intro _;show(128:Int)≤128;omega
theorem QO(l:List Int):∀x:agM,(x.chars l).r=x.r:=by
 induction l with
 |nil=>intro x;rfl
 |cons c l ih=>intro x;exact ih _
end Go.Proofs.YtheibfffilomcabGreatDoor
