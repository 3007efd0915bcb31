import Derived.Test.YtheibfffilomcaaGreatDoorTmaU
import Derived.Test.YtheibfffilomcaaGreatDoorQaU
set_option linter.all false
set_option maxRecDepth 100000
set_option maxHeartbeats 2000000
namespace Go.Proofs.YtheibfffilomcaaGreatDoor
open Go.RowKit Go.Proofs.Tryz
variable {w wr w':World} {fb:Nat} {L0 L:Lay} {cs:List Int} {x:akA} {fn:Func} {p:Tmp} {ty:TypeId} {fs:Array Field}
structure FI (w:World) (fb:Nat) (L0:Lay) (v:Value) (cs:List Int) (x:akA) (wr:World) (L:Lay):Prop where
 f:Cm wr fb L x
 l:gI wr (fb+1) v cs
 Tj:L.tb=L0.tb
 ch:Ch (fun k=>k=fb∨L0.own k) w wr
 gr:∀k,L.own k→L0.own k∨w.heap.size≤k
 vn:∀k,v.ownBlock=some k→w.heap.size≤k∧¬L.own k
 tb:zm wr
 lo:2<fb∧fb<w.heap.size
theorem FI.vlt{v:Value}(h:FI w fb L0 v cs x wr L){k:Nat}(hk:v.ownBlock=some k):k<wr.heap.size:=((wN h.l) k hk).2
theorem FI.same{v:Value}(h:FI w fb L0 v cs x wr L)(b:Below wr.heap.size wr w'):FI w fb L0 v cs x w' L:=
 ⟨h.f.kept (P:=fun _=>False) (Ch.of_below b) id (fun _ _=>id),h.l.below b,h.Tj,h.ch.trans (Ch.of_below b),h.gr,h.vn,h.tb.ch (P:=fun _=>False) (Ch.of_below b) (fun _ _=>id),h.lo⟩
theorem gI.blk{base:Nat}{v:Value}{L:List Int}(h:gI w base v L)(hb:∀k,v.ownBlock=some k→w'.heap[k]? =w.heap[k]?):gI w' base v L:=by
 obtain⟨h1,h2⟩:=h;refine⟨h1,?_⟩;rcases h2 with h2|⟨g,cap,cur,hv,hg,hblk,h5⟩
 ·exact .inl h2
 ·exact .inr ⟨g,cap,cur,hv,hg,(hb g (by rw[hv];rfl)).trans hblk,h5⟩
theorem FI.km{v:Value}(h:FI w fb L0 v cs x wr L)(k:Km fb 4 wr w'){m:MS}(hm:kS w' fb 4 m):FI w fb L0 v cs ⟨x.r,m,x.t⟩ w' L:=by have c:Ch (fun i=>i=fb) wr w':=⟨k.os,k.tape,k.output,k.size,fun i hi hn=>k.block i hi hn⟩;have hlo:=h.lo;exact⟨h.f.machine k hm,h.l.blk (fun i hi=>c.block i (h.vlt hi) (by have:=(h.vn i hi).1;omega)),h.Tj,h.ch.trans' c (fun i _ e=>.inl e),h.gr,h.vn,h.tb.ch c (fun i hi e=>by omega),h.lo⟩
theorem FI.next{v:Value}(h:FI w fb L0 v cs x wr L){t:TS}(n:Next L wr w' t):∃L',FI w fb L0 v cs ⟨x.r,x.m,t⟩ w' L':=by
 obtain⟨L',h1,h2,h3,h4⟩:=n;have hb:=h3.block fb h.f.lt h.f.no;have hlo:=h.lo;have hfl:=h.f.lt;refine⟨L',⟨h.f.rd.kept hb,h.f.ma.kept hb,by rw[h1];exact(dA hb).trans h.f.pt,h2,fun q=>?_,fun k hk=>?_⟩,h.l.blk (fun i hi=>h3.block i (h.vlt hi) (h.vn i hi).2),h1.trans h.Tj,h.ch.trans' h3 (fun i hi q=>?_),fun k hk=>?_,fun k hk=>⟨(h.vn k hk).1,fun q=>?_⟩,h.tb.ch h3 (fun i hi q=>?_),h.lo⟩
 ·rcases h4 fb q with q|q
  ·exact h.f.no q
  ·omega
 ·rcases h4 k hk with q|q
  ·exact h.f.hi k q
  ·omega
 ·rcases h.gr i q with e|e
  ·exact .inr e
  ·omega
 ·rcases h4 k hk with q|q
  ·exact h.gr k q
  ·exact .inr (iD h.ch.size q)
 ·rcases h4 k q with e|e
  ·exact(h.vn k hk).2 e
  ·have:=h.vlt hk;omega
 ·have:=h.f.hi i q;omega
theorem FI.read{v v1:Value}{cs1:List Int}(h:FI w fb L0 v cs x wr L)(k:Kl v v1 fb 0 wr w'){r:RS}(hr:mM w' fb 0 r)(hl:gI w' (fb+1) v1 cs1):FI w fb L0 v1 cs1 ⟨r,x.m,x.t⟩ w' L:=by
 have c:Ch (fun i=>i=fb∨v.ownBlock=some i) wr w':=⟨k.os,k.tape,k.output,k.size,fun i hi hn=>k.block i hi (fun e=>hn (.inl e)) (fun e=>hn (.inr e))⟩;have hlo:=h.lo;refine⟨h.f.reader k hr (fun i hi e=>(h.vn i e).2 hi),hl,h.Tj,h.ch.trans' c (fun i hi q=>?_),h.gr,fun i hi=>?_,h.tb.ch c (fun i hi q=>?_),h.lo⟩
 ·rcases q with q|q
  ·exact .inl q
  ·have:=(h.vn i q).1;omega
 ·rcases k.own i hi with q|q
  ·exact h.vn i q
  ·exact⟨iD h.ch.size q,fun e=>by have:=h.f.te.pQ e;omega⟩
 ·rcases q with q|q
  ·omega
  ·have:=(h.vn i q).1;omega
theorem FI.cut{v:Value}(h:FI w fb L0 v cs x wr L):∃ao n cap,v= .slice ao n cap∧(ao=none→n=0∧cap=0)∧n≤cap∧(∀b,ao=some b→b.off=0∧b.spot=none)∧FI w fb L0 (.slice ao 0 cap) [] x wr L:=by
 obtain⟨h1,h2⟩:=h.l;rcases h2 with⟨hv,hn⟩|⟨g,cap,cur,hv,hg,hblk,hn,hm,hcs,htake⟩
 ·subst hv;exact⟨none,0,0,rfl,fun _=>⟨rfl,rfl⟩,bN _,fun b hb=>(by cases hb),⟨h.f,AU _ _ _ _,h.Tj,h.ch,h.gr,h.vn,h.tb,h.lo⟩⟩
 ·subst hv;exact⟨some ⟨g,0,none⟩,cs.length,cap,rfl,fun e=>(by cases e),hn,fun b hb=>(by cases hb;exact⟨rfl,rfl⟩),⟨h.f,⟨rfl,.inr ⟨g,cap,cur,rfl,hg,hblk,dx _,hm,hcs,by simp⟩⟩,h.Tj,h.ch,h.gr,h.vn,h.tb,h.lo⟩⟩
theorem Qv(fb:Nat)(L0:Lay)(x0:akA)(s:ByteArray)(w:World)(h:Cm w fb L0 x0)(hok:x0.Ok)(htb:zm w)(hfb:2<fb)(hs:s.size≤281474976710656):
 Calls prog 10 #[.pointer (some ⟨fb,0,none⟩),.string s] w fun e w'=>e= .returned (.tuple #[])∧∃v cs L,FI w fb L0 v cs (x0.feed (bl s)) w' L:=by
 have F0:FI w fb L0 (.slice none 0 0) [] x0 w L0:=⟨h,AU _ _ _ _,rfl,Ch.refl _ _,fun _ hk=>.inl hk,fun k hk=>(by cases hk),htb,hfb,h.lt⟩;have HF0:Hid _:=F0;have iV:Hid x0.Ok:=hok;have HB:Hid ((bl s).length=s.size):=cZ s;have HBY:Hid (∀b∈bl s,0≤b∧b<256):=sZ s;clear h hok htb F0;go_enter func10,ntmps10;go_wp2_with fail;go_loopw [4,12] (fun v i wr=>∃(k:Nat) (cs:List Int) (L:Lay),k≤s.size∧i= .int .i64 k∧FI w fb L0 v cs (x0.feed ((bl s).take k)) wr L) (fun _ i _=>s.size-(intOf i).toNat)
 case atStart=>exact⟨0,[],L0,dx _,rfl,HF0.o⟩
 case round=>
  clear HF0;obtain⟨k,cs,L,hk,rfl,F⟩:=hrel;by_cases hlt:k<s.size
  ·have hxk:(x0.feed ((bl s).take k)).Ok:=iV.o.feed _ (fun b hb=>HBY.o b (AL hb));have hbt:=Us s k hlt;have hx1:(s[k]'hlt).toNat<256:=wQ _;have HS:Hid (x0.feed ((bl s).take (k+1))=(x0.feed ((bl s).take k)).byte ((s[k]'hlt).toNat:Int)):=by show _=_;rw[hbt,Na]
   clear hbt;generalize x0.feed ((bl s).take k)=x at*;obtain⟨ao,n,cap,rfl,hnone,ahn,QK,F⟩:=F.cut;have ik:(k:Int)<(s.size:Int):=by omega
   have hle1:qb wr:=F.tb.le;have hlo:=F.lo;have hsz:=F.ch.size;have lr:=Ot (fb+1) fb 0 x.r ((s[k]'hlt).toNat:Int) (.slice ao 0 cap) [] ({wr with drawn:=wr.drawn+1}:World) (F.f.rd.kept rfl) hxk.r (by omega) (by omega) (hle1.kept rfl) (by omega) (by omega) (F.l.blk (fun _ _=>rfl)) (by simp) (by show fb+1≤wr.heap.size;omega);have HF:Hid _:=F;have HX:Hid x.Ok:=hxk;clear F hxk hle1;cases ao with
   |none=>
    obtain⟨rfl,rfl⟩:=hnone rfl;clear hnone QK;go_wp2_with fail;refine dX (S:=fun _=>True) aX ?_;refine ay 0 1 2 3 trivial ?_;simp only[ag,af];refine aj 4 trivial ?_ (v:=.slice none 0 0);refine dW 5 6 trivial ?_;refine aj 7 trivial ?_ (v:=.int .u8 ((s[k]'hlt).toNat:Int));simp only[ag,af];refine av 8 ?_;refine a_ (R:=fun v w'=>FI w fb L0 v (x.r.take ((s[k]'hlt).toNat:Int)).2 ⟨(x.r.take ((s[k]'hlt).toNat:Int)).1,x.m,x.t⟩ w' L) (lr.mono fun e w' ⟨v1,q1,q2,q3,q4⟩=>⟨v1,q1,HF.o.read ⟨q4.os,q4.tape,q4.output,q4.size,q4.block,q4.cell,q4.frozen,q4.own⟩ q3 (by simpa using q2)⟩) ?_;intro v1 w1 F1;refine⟨trivial,?_⟩;clear lr HF;simp only[ag,af];refine aj 9 trivial ?_;simp only[ag,af];refine aC ?_;have hcb:=FJ HX.o.r (b:=((s[k]'hlt).toNat:Int)) (by omega) (by omega);have hcl:=take_len x.r ((s[k]'hlt).toNat:Int);have HS2:Hid (x0.feed ((bl s).take (k+1))=akA.chars ⟨(x.r.take ((s[k]'hlt).toNat:Int)).1,x.m,x.t⟩ (x.r.take ((s[k]'hlt).toNat:Int)).2):=HS.o;have wz:Hid (akA.Ok ⟨(x.r.take ((s[k]'hlt).toNat:Int)).1,x.m,x.t⟩):=⟨HX.o.r.take _,HX.o.m,HX.o.t⟩;clear HS HX;generalize (x.r.take ((s[k]'hlt).toNat:Int)).2=cs1 at*;generalize (⟨(x.r.take ((s[k]'hlt).toNat:Int)).1,x.m,x.t⟩:akA)=x1 at*;obtain⟨a1,c1,rfl,_⟩:=uX F1.l;have Cn:Hid _:=F1;clear F1;go_wp2_with fail;go_loopw [26] (fun i wq=>∃(j:Nat) (L:Lay),j≤cs1.length∧i= .int .i64 j∧FI w fb L0 (.slice a1 cs1.length c1) cs1 (x1.chars (cs1.take j)) wq L) (fun i _=>cs1.length-(intOf i).toNat)
    case atStart=>exact⟨0,L,dx _,rfl,Cn.o⟩
    case round=>
     clear Cn;obtain⟨j,L,hj,rfl,F⟩:=hrel;by_cases hlt2:j<cs1.length
     ·have ij:(j:Int)<(cs1.length:Int):=by omega
      obtain⟨_,_,ee,q⟩:=uX F.l;obtain⟨g,hg,cc⟩:=q j (.int .i64 cs1[j]) (by simp[eG hlt2]);cases ee;subst hg;have QM:=hcb cs1[j] (zW hlt2);have Cr:Hid (x1.chars (cs1.take (j+1))=(x1.chars (cs1.take j)).char cs1[j]):=by show _=_;rw[o7 hlt2,Bh]
      have hxk:(x1.chars (cs1.take j)).Ok:=wz.o.chars _ (fun c hc=>hcb c (AL hc));generalize cs1[j]=c at*;generalize x1.chars (cs1.take j)=y at*;have gq:=Ec hxk.m.len c;have aat:=Ea hxk.m c;have lm:=Ed fb 4 y.m c _ F.f.ma hxk.m QM.1 QM.2;have HY:Hid (y.char c=⟨y.r,(y.m.take c).1,if(y.m.take c).2.2 then y.t.take (y.m.take c).2.1 else y.t⟩):=rfl;have HF:Hid _:=F;have Ta:Hid y.Ok:=hxk;have WE:Hid _:=aat;obtain⟨⟨m',EV,B⟩,hT⟩:∃z,y.m.take c=z:=⟨_,rfl⟩;rw[hT]at lm HY gq WE;dsimp only at lm gq;clear F q hxk aat hT;go_wp2_with fail;refine lm.mono ?_;rintro e u1 ⟨rfl,Va,Q8⟩;dsimp only;have F1:=HF.o.km Q8 Va;have Cn:Hid _:=F1;clear F1 HF lm Q8 Va;go_wp2_with (refine b_ _ rfl (.tmp 8) (.tmp 36) rfl u1.heap.size aO EV rfl _ rfl rfl gq 46 (bV u1 _) rfl ?_);intro u2 FT DZ zu2;have r2:u1.grownBy u2 (some u1.heap.size):=tO (World.grownBy_alloc u1 _ _) DZ;have F2:=Cn.o.same (w':=u2) ⟨r2.os,r2.tape,r2.output,r2.size,fun k hk=>r2.block k hk (fun e=>by simp at e;omega)⟩;have Yv:¬L.own u1.heap.size:=fun e=>by have:=Cn.o.f.te.pQ e;omega
      have hl2:u1.heap.size<u2.heap.size:=aK FT;have Cx:Hid _:=F2;clear F2 Cn DZ r2;cases B with
      |false=>
       have Xk:Hid (x1.chars (cs1.take (j+1))=⟨y.r,m',y.t⟩):=Cr.o.trans HY.o;clear Cr HY;go_wp2_with fail;go_roundw
       case rel=>exact⟨j+1,L,by omega,by go_num,by rw[Xk.o];exact Cx.o⟩
       case measure=>simp[intOf];omega
      |true=>
       have Xk:Hid (x1.chars (cs1.take (j+1))=⟨y.r,m',y.t.take EV⟩):=Cr.o.trans HY.o;have lt:=Ei L y.t ({u2 with drawn:=u2.drawn+1}:World) (Cx.o.f.te.sm ((Ch.refl _ _).drewN 1)) Ta.o.t Cx.o.f.hi (Cx.o.tb.kept (fun _ _=>rfl)) EV (WE.o rfl);have RG:∀u:World,u.heap[u1.heap.size]? =u2.heap[u1.heap.size]? →u.rangeAt u1.heap.size 0 (eF EV):=fun u hu i v hv=>by rw[bG _ _ _ _ _ _ (hu.trans FT),lH];simpa[aA]using hv
       have HH:World.cell? ({u2 with drawn:=u2.drawn+1}:World) ⟨fb,23,none⟩=some (.pointer (some ⟨L.tb,0,none⟩))∧World.rangeAt ({u2 with drawn:=u2.drawn+1}:World) u1.heap.size 0 (eF EV):=⟨Cx.o.f.pt,RG _ rfl⟩;clear Cr HY;go_wp2_with fail;refine dX (S:=fun x=>x.cell? ⟨fb,23,none⟩=some (.pointer (some ⟨L.tb,0,none⟩))∧x.rangeAt u1.heap.size 0 (eF EV)) aX ?_;refine ay 0 1 2 3 HH ?_;simp only[ag,af];refine aj 4 HH ?_ (v:=.agg (aA EV)) (hy:=(kz (by rfl) 46 (.tmp 8) rfl u1.heap.size 0 rfl (eF EV) _ (fun x h=>h.2) underlying46 rfl (by rw[jk,gq];exact gZ)));simp only[ag,af];refine av 5 ?_;refine a_ (vs:=[.pointer (some ⟨L.tb,0,none⟩),.agg (aA EV)]) (R:=fun v w'=>v= .tuple #[]∧Next L u2 w' (y.t.take EV)) (lt.mono fun e w' ⟨q1,L',q2,q3,q4,q5⟩=>⟨_,q1,rfl,L',q2,q3,⟨q4.os,q4.tape,q4.output,q4.size,q4.block⟩,q5⟩) ?_;rintro v3 u3 ⟨rfl,nx⟩;have hk3:u3.heap[u1.heap.size]? =u2.heap[u1.heap.size]? :=by obtain⟨L',_,_,q,_⟩:=nx;exact q.block _ hl2 Yv
       obtain⟨L',F3⟩:=Cx.o.next nx;refine⟨⟨by rw[F3.f.pt,F3.Tj,Cx.o.Tj],RG _ hk3⟩,?_⟩;clear lt HH;simp only[ag,af];have O7:Hid _:=F3;clear F3 nx Cx RG hk3;refine aC ?_;go_wp2_with fail;go_roundw
       case rel=>exact⟨j+1,L',by omega,by go_num,by rw[Xk.o];exact O7.o⟩
       case measure=>simp[intOf];omega
     ·have hjn:j=cs1.length:=by omega
      subst hjn;rw[List.take_length]at F;have HF:Hid _:=F;clear F;go_wp2_with fail;go_roundw
      case rel=>exact⟨k+1,cs1,L,by omega,by go_num,by rw[HS2.o];exact HF.o⟩
      case measure=>simp[intOf];omega
   |some ad=>
    obtain⟨g0,o0,sp0⟩:=ad;obtain⟨ho0,ace⟩:=QK _ rfl;dsimp only at ho0 ace;subst ho0 ace;clear hnone QK;have ic:(0:Int)≤(cap:Int):=by omega
    go_wp2_with fail;refine dX (S:=fun _=>True) aX ?_;refine ay 0 1 2 3 trivial ?_;simp only[ag,af];refine aj 4 trivial ?_ (v:=.slice (some ⟨g0,0,none⟩) 0 cap);refine dW 5 6 trivial ?_;refine aj 7 trivial ?_ (v:=.int .u8 ((s[k]'hlt).toNat:Int));simp only[ag,af];refine av 8 ?_;refine a_ (R:=fun v w'=>FI w fb L0 v (x.r.take ((s[k]'hlt).toNat:Int)).2 ⟨(x.r.take ((s[k]'hlt).toNat:Int)).1,x.m,x.t⟩ w' L) (lr.mono fun e w' ⟨v1,q1,q2,q3,q4⟩=>⟨v1,q1,HF.o.read ⟨q4.os,q4.tape,q4.output,q4.size,q4.block,q4.cell,q4.frozen,q4.own⟩ q3 (by simpa using q2)⟩) ?_;intro v1 w1 F1;refine⟨trivial,?_⟩;clear lr HF;simp only[ag,af];refine aj 9 trivial ?_;simp only[ag,af];refine aC ?_;have hcb:=FJ HX.o.r (b:=((s[k]'hlt).toNat:Int)) (by omega) (by omega);have hcl:=take_len x.r ((s[k]'hlt).toNat:Int);have HS2:Hid (x0.feed ((bl s).take (k+1))=akA.chars ⟨(x.r.take ((s[k]'hlt).toNat:Int)).1,x.m,x.t⟩ (x.r.take ((s[k]'hlt).toNat:Int)).2):=HS.o;have wz:Hid (akA.Ok ⟨(x.r.take ((s[k]'hlt).toNat:Int)).1,x.m,x.t⟩):=⟨HX.o.r.take _,HX.o.m,HX.o.t⟩;clear HS HX;generalize (x.r.take ((s[k]'hlt).toNat:Int)).2=cs1 at*;generalize (⟨(x.r.take ((s[k]'hlt).toNat:Int)).1,x.m,x.t⟩:akA)=x1 at*;obtain⟨a1,c1,rfl,_⟩:=uX F1.l;have Cn:Hid _:=F1;clear F1;go_wp2_with fail;go_loopw [26] (fun i wq=>∃(j:Nat) (L:Lay),j≤cs1.length∧i= .int .i64 j∧FI w fb L0 (.slice a1 cs1.length c1) cs1 (x1.chars (cs1.take j)) wq L) (fun i _=>cs1.length-(intOf i).toNat)
    case atStart=>exact⟨0,L,dx _,rfl,Cn.o⟩
    case round=>
     clear Cn;obtain⟨j,L,hj,rfl,F⟩:=hrel;by_cases hlt2:j<cs1.length
     ·have ij:(j:Int)<(cs1.length:Int):=by omega
      obtain⟨_,_,ee,q⟩:=uX F.l;obtain⟨g,hg,cc⟩:=q j (.int .i64 cs1[j]) (by simp[eG hlt2]);cases ee;subst hg;have QM:=hcb cs1[j] (zW hlt2);have Cr:Hid (x1.chars (cs1.take (j+1))=(x1.chars (cs1.take j)).char cs1[j]):=by show _=_;rw[o7 hlt2,Bh]
      have hxk:(x1.chars (cs1.take j)).Ok:=wz.o.chars _ (fun c hc=>hcb c (AL hc));generalize cs1[j]=c at*;generalize x1.chars (cs1.take j)=y at*;have gq:=Ec hxk.m.len c;have aat:=Ea hxk.m c;have lm:=Ed fb 4 y.m c _ F.f.ma hxk.m QM.1 QM.2;have HY:Hid (y.char c=⟨y.r,(y.m.take c).1,if(y.m.take c).2.2 then y.t.take (y.m.take c).2.1 else y.t⟩):=rfl;have HF:Hid _:=F;have Ta:Hid y.Ok:=hxk;have WE:Hid _:=aat;obtain⟨⟨m',EV,B⟩,hT⟩:∃z,y.m.take c=z:=⟨_,rfl⟩;rw[hT]at lm HY gq WE;dsimp only at lm gq;clear F q hxk aat hT;go_wp2_with fail;refine lm.mono ?_;rintro e u1 ⟨rfl,Va,Q8⟩;dsimp only;have F1:=HF.o.km Q8 Va;have Cn:Hid _:=F1;clear F1 HF lm Q8 Va;go_wp2_with (refine b_ _ rfl (.tmp 8) (.tmp 36) rfl u1.heap.size aO EV rfl _ rfl rfl gq 46 (bV u1 _) rfl ?_);intro u2 FT DZ zu2;have r2:u1.grownBy u2 (some u1.heap.size):=tO (World.grownBy_alloc u1 _ _) DZ;have F2:=Cn.o.same (w':=u2) ⟨r2.os,r2.tape,r2.output,r2.size,fun k hk=>r2.block k hk (fun e=>by simp at e;omega)⟩;have Yv:¬L.own u1.heap.size:=fun e=>by have:=Cn.o.f.te.pQ e;omega
      have hl2:u1.heap.size<u2.heap.size:=aK FT;have Cx:Hid _:=F2;clear F2 Cn DZ r2;cases B with
      |false=>
       have Xk:Hid (x1.chars (cs1.take (j+1))=⟨y.r,m',y.t⟩):=Cr.o.trans HY.o;clear Cr HY;go_wp2_with fail;go_roundw
       case rel=>exact⟨j+1,L,by omega,by go_num,by rw[Xk.o];exact Cx.o⟩
       case measure=>simp[intOf];omega
      |true=>
       have Xk:Hid (x1.chars (cs1.take (j+1))=⟨y.r,m',y.t.take EV⟩):=Cr.o.trans HY.o;have lt:=Ei L y.t ({u2 with drawn:=u2.drawn+1}:World) (Cx.o.f.te.sm ((Ch.refl _ _).drewN 1)) Ta.o.t Cx.o.f.hi (Cx.o.tb.kept (fun _ _=>rfl)) EV (WE.o rfl);have RG:∀u:World,u.heap[u1.heap.size]? =u2.heap[u1.heap.size]? →u.rangeAt u1.heap.size 0 (eF EV):=fun u hu i v hv=>by rw[bG _ _ _ _ _ _ (hu.trans FT),lH];simpa[aA]using hv
       have HH:World.cell? ({u2 with drawn:=u2.drawn+1}:World) ⟨fb,23,none⟩=some (.pointer (some ⟨L.tb,0,none⟩))∧World.rangeAt ({u2 with drawn:=u2.drawn+1}:World) u1.heap.size 0 (eF EV):=⟨Cx.o.f.pt,RG _ rfl⟩;clear Cr HY;go_wp2_with fail;refine dX (S:=fun x=>x.cell? ⟨fb,23,none⟩=some (.pointer (some ⟨L.tb,0,none⟩))∧x.rangeAt u1.heap.size 0 (eF EV)) aX ?_;refine ay 0 1 2 3 HH ?_;simp only[ag,af];refine aj 4 HH ?_ (v:=.agg (aA EV)) (hy:=(kz (by rfl) 46 (.tmp 8) rfl u1.heap.size 0 rfl (eF EV) _ (fun x h=>h.2) underlying46 rfl (by rw[jk,gq];exact gZ)));simp only[ag,af];refine av 5 ?_;refine a_ (vs:=[.pointer (some ⟨L.tb,0,none⟩),.agg (aA EV)]) (R:=fun v w'=>v= .tuple #[]∧Next L u2 w' (y.t.take EV)) (lt.mono fun e w' ⟨q1,L',q2,q3,q4,q5⟩=>⟨_,q1,rfl,L',q2,q3,⟨q4.os,q4.tape,q4.output,q4.size,q4.block⟩,q5⟩) ?_;rintro v3 u3 ⟨rfl,nx⟩;have hk3:u3.heap[u1.heap.size]? =u2.heap[u1.heap.size]? :=by obtain⟨L',_,_,q,_⟩:=nx;exact q.block _ hl2 Yv
       obtain⟨L',F3⟩:=Cx.o.next nx;refine⟨⟨by rw[F3.f.pt,F3.Tj,Cx.o.Tj],RG _ hk3⟩,?_⟩;clear lt HH;simp only[ag,af];have O7:Hid _:=F3;clear F3 nx Cx RG hk3;refine aC ?_;go_wp2_with fail;go_roundw
       case rel=>exact⟨j+1,L',by omega,by go_num,by rw[Xk.o];exact O7.o⟩
       case measure=>simp[intOf];omega
     ·have hjn:j=cs1.length:=by omega
      subst hjn;rw[List.take_length]at F;have HF:Hid _:=F;clear F;go_wp2_with fail;go_roundw
      case rel=>exact⟨k+1,cs1,L,by omega,by go_num,by rw[HS2.o];exact HF.o⟩
      case measure=>simp[intOf];omega
  ·have hkn:k=s.size:=by omega
   subst hkn;have hba:=Xv s;rw[hba]at F;have HF:Hid _:=F;clear F hba;go_wp2_with fail;go_end0;exact⟨rfl,_,cs,L,HF.o⟩
def TS.cellAt (t:TS) (n i k:Nat):aI:=((if n=0 then t.s0 else t.s1).getD i []).getD k aD
def TS.gW (t:TS) (n:Nat):di:=if n=0 then t.v0 else t.v1
def xM (s:TS):List Value:=aB s.spot++[.int .i64 s.top,.int .i64 s.bottom,.bool s.wrap,.bool s.insert,.int .i64 s.shown]
theorem zw:(prog.info? 84).map (·.size)=some 17:=by kernel_rfl
theorem yL(s:TS):∀v∈xM s,v.oneCell'=true:=by intro v hv;have:(xM s).all (·.oneCell')=true:=rfl;exact List.all_eq_true.1 this v hv
theorem eX(h:fn.results= #[.cell p ty])(tmps:Array Value)(w:World)(g:Nat)(cs:List Value)(t:TypeId)(fr:Nat × Nat)(hu:prog.underlying ty=some (.struct fs))(hi:(prog.info? ty).map (·.size)=some cs.length)(hp:tmps.getD p undef= .pointer (some ⟨g,0,none⟩))(hg:w.heap[g]? =some (.cells cs.toArray t fr)):(results fn tmps).run prog w= .ok (.agg cs.toArray) w:=
 results_cell_row h tmps w g t cs.toArray fr _ hp hg hu rfl (by simpa using hi)
theorem bf{q:Tmp}(h:fn.results= #[.cell p ty,.tmp q])(tmps:Array Value)(w:World)(g:Nat)(cs:List Value)(t:TypeId)(fr:Nat × Nat)(hu:prog.underlying ty=some (.struct fs))(hi:(prog.info? ty).map (·.size)=some cs.length)(hp:tmps.getD p undef= .pointer (some ⟨g,0,none⟩))(hg:w.heap[g]? =some (.cells cs.toArray t fr)):(results fn tmps).run prog w= .ok (.tuple #[.agg cs.toArray,tmps.getD q undef]) w:=by
 have hp':tmps[p]?.getD undef= .pointer (some ⟨g,0,none⟩):=by simpa using hp
 simp[results,h,hp',asAddr,run_loadVar_row w g t ty cs.toArray fr _ hg hu rfl (by simpa using hi)]
theorem bC(L:Lay)(n:Int)(w:World):Calls prog 76 #[.pointer (some ⟨L.tb,0,none⟩),.int .i64 n] w fun e w'=>e= .returned (.bool (decide (0≤n∧n<2)))∧w'=w:=by
 by_cases h1:0≤n
 ·by_cases h2:n<2
  ·rw[iP (⟨h1,h2⟩:0≤n∧n<2)];go_enter func76,ntmps76;go_wp2_with fail;go_ret;exact⟨rfl,rfl⟩
  ·rw[jh (fun h:0≤n∧n<2=>h2 h.2)];have d2:decide (n<2)=false:=by simp;omega
   go_enter func76,ntmps76;go_wp2_with fail;go_ret;exact⟨rfl,rfl⟩
 ·rw[jh (fun h:0≤n∧n<2=>h1 h.1)];have d1:decide (0≤n)=false:=by simp;omega
  go_enter func76,ntmps76;go_wp2_with fail;go_ret;exact⟨rfl,rfl⟩
theorem l8(L:Lay)(s:TS)(n:Int)(w:World)(ht:cO w L s)(hi:s.Inv):Calls prog 79 #[.pointer (some ⟨L.tb,0,none⟩),.int .i64 n] w fun e w'=>e= .returned (.bool (decide (0≤n∧n<(s.rows:Int))))∧w'=w:=by
 have l1:=rA L s w ht hi;clear ht hi;by_cases h1:0≤n
 ·by_cases h2:n<(s.rows:Int)
  ·rw[iP (⟨h1,h2⟩:0≤n∧n<(s.rows:Int))];have h3:n≤(s.rows:Int)-1:=by omega
   clear h2;go_enter func79,ntmps79;go_wp2_with (go_at_call 154;refine l1.mono ?_;rintro e w1 ⟨rfl,hw1⟩;have hw2:=hw1.symm;subst hw2);go_ret;exact⟨rfl,rfl⟩
  ·rw[jh (fun h:0≤n∧n<(s.rows:Int)=>h2 h.2)];have d2:decide (n≤(s.rows:Int)-1)=false:=by simp;omega
   clear h2;go_enter func79,ntmps79;go_wp2_with (go_at_call 154;refine l1.mono ?_;rintro e w1 ⟨rfl,hw1⟩;have hw2:=hw1.symm;subst hw2);go_ret;exact⟨rfl,rfl⟩
 ·rw[jh (fun h:0≤n∧n<(s.rows:Int)=>h1 h.1)];have d1:decide (0≤n)=false:=by simp;omega
  go_enter func79,ntmps79;go_wp2_with fail;go_ret;exact⟨rfl,rfl⟩
theorem l7(L:Lay)(s:TS)(n:Int)(w:World)(ht:cO w L s)(hi:s.Inv):Calls prog 80 #[.pointer (some ⟨L.tb,0,none⟩),.int .i64 n] w fun e w'=>e= .returned (.bool (decide (0≤n∧n<(s.ah:Int))))∧w'=w:=by
 have l1:=pE L s w ht hi;clear ht hi;by_cases h1:0≤n
 ·by_cases h2:n<(s.ah:Int)
  ·rw[iP (⟨h1,h2⟩:0≤n∧n<(s.ah:Int))];have h3:n≤(s.ah:Int)-1:=by omega
   clear h2;go_enter func80,ntmps80;go_wp2_with (go_at_call 105;refine l1.mono ?_;rintro e w1 ⟨rfl,hw1⟩;have hw2:=hw1.symm;subst hw2);go_ret;exact⟨rfl,rfl⟩
  ·rw[jh (fun h:0≤n∧n<(s.ah:Int)=>h2 h.2)];have d2:decide (n≤(s.ah:Int)-1)=false:=by simp;omega
   clear h2;go_enter func80,ntmps80;go_wp2_with (go_at_call 105;refine l1.mono ?_;rintro e w1 ⟨rfl,hw1⟩;have hw2:=hw1.symm;subst hw2);go_ret;exact⟨rfl,rfl⟩
 ·rw[jh (fun h:0≤n∧n<(s.ah:Int)=>h1 h.1)];have d1:decide (0≤n)=false:=by simp;omega
  go_enter func80,ntmps80;go_wp2_with fail;go_ret;exact⟨rfl,rfl⟩
theorem vY(L:Lay)(s:TS)(w:World)(ht:cO w L s):Calls prog 75 #[.pointer (some ⟨L.tb,0,none⟩)] w fun e w'=>e= .returned (.agg (xM s).toArray)∧Sm w w':=by have HR:Hid (w.rangeAt L.tb 26 (xM s)):=ht.range' 26 _ rfl;have hlt:=ht.lt;clear ht;go_enter func75,ntmps75;go_wp2_with (first|(refine nN rfl 84 (.tmp 5) rfl L.tb 26 rfl (xM s) _ (World.rangeAt_alloc HR.o _) underlying84 rfl zw ?_)|(refine bK _ rfl 84 (.tmp 2) (.tmp 6) rfl w.heap.size [.int .i64 0,.int .i64 0,.bool false,.bool false,.bool false,.bool false,.int .i64 0,.int .i64 0,.int .i64 0,.int .i64 0,.int .i64 0,.bool false,.int .i64 0,.int .i64 0,.bool false,.bool false,.int .i64 0] (xM s) rfl _ rfl rfl 84 (bV _ _) rfl zw (yL s) ?_));intro u2 g2 k2 z2;go_wp2_with fail;exact bX (eX results75 _ _ w.heap.size (xM s) 84 (0,0) underlying84 zw rfl g2) rfl ⟨rfl,((Ch.refl _ _).alloc _).trans' k2 (fun k hk e=>by omega)⟩
theorem aaL(fb:Nat)(L:Lay)(x:akA)(w:World)(h:Cm w fb L x):Calls prog 34 #[.pointer (some ⟨fb,0,none⟩)] w fun e w'=>e= .returned (.agg (xM x.t).toArray)∧Sm w w':=by have hpt:=h.pt;have hfl:=h.lt;have l1:∀o,_:=fun o=>vY L x.t (w.alloc o) (h.te.sm ((Ch.refl _ _).alloc _));clear h;go_enter func34,ntmps34;go_wp2_with (first|(go_at_call 75;refine(l1 _).mono ?_;rintro e w1 ⟨rfl,s1⟩)|(refine bK _ rfl 84 (.tmp 2) (.tmp 7) rfl w.heap.size [.int .i64 0,.int .i64 0,.bool false,.bool false,.bool false,.bool false,.int .i64 0,.int .i64 0,.int .i64 0,.int .i64 0,.int .i64 0,.bool false,.int .i64 0,.int .i64 0,.bool false,.bool false,.int .i64 0] (xM x.t) rfl _ rfl rfl 84 ((s1.block _ (by simp) id).trans (bV _ _)) rfl zw (yL x.t) ?_));intro u2 g2 k2 z2;go_wp2_with fail;exact bX (eX results34 _ _ w.heap.size (xM x.t) 84 (0,0) underlying84 zw rfl g2) rfl ⟨rfl,(((Ch.refl _ _).alloc _).trans s1).trans' k2 (fun k hk e=>by omega)⟩
theorem Cb(L:Lay)(s:TS)(n:Nat)(hn:n<2)(w:World)(ht:cO w L s):Calls prog 77 #[.pointer (some ⟨L.tb,0,none⟩),.int .i64 (n:Int)] w fun e w'=>e= .returned (.agg (aB (s.gW n)).toArray)∧Sm w w':=by
 have hlt:=ht.lt;rcases(show n=0∨n=1 by omega)with rfl|rfl
 ·rw[show s.gW 0=s.v0 from rfl];have HR:Hid (w.rangeAt L.tb 1 (aB s.v0)):=ht.range' 1 _ rfl;clear ht;go_enter func77,ntmps77;go_wp2_with (first|(refine nN rfl 82 (.tmp 10) rfl L.tb 1 rfl (aB s.v0) _ (World.rangeAt_alloc HR.o _) underlying82 rfl bH ?_)|(refine bK _ rfl 82 (.tmp 4) (.tmp 11) rfl w.heap.size [.int .i64 0,.int .i64 0,.bool false,.bool false,.bool false,.bool false,.int .i64 0,.int .i64 0,.int .i64 0,.int .i64 0,.int .i64 0,.bool false] (aB s.v0) rfl _ rfl rfl 82 (bV _ _) rfl bH (iM _) ?_));intro u2 g2 k2 z2;go_wp2_with fail;exact bX (eX results77 _ _ w.heap.size (aB s.v0) 82 (0,0) underlying82 bH rfl g2) rfl ⟨rfl,((Ch.refl _ _).alloc _).trans' k2 (fun k hk e=>by omega)⟩
 ·rw[show s.gW 1=s.v1 from rfl];have HR:Hid (w.rangeAt L.tb 14 (aB s.v1)):=ht.range' 14 _ rfl;clear ht;go_enter func77,ntmps77;go_wp2_with (first|(refine nN rfl 82 (.tmp 10) rfl L.tb 14 rfl (aB s.v1) _ (World.rangeAt_alloc HR.o _) underlying82 rfl bH ?_)|(refine bK _ rfl 82 (.tmp 4) (.tmp 11) rfl w.heap.size [.int .i64 0,.int .i64 0,.bool false,.bool false,.bool false,.bool false,.int .i64 0,.int .i64 0,.int .i64 0,.int .i64 0,.int .i64 0,.bool false] (aB s.v1) rfl _ rfl rfl 82 (bV _ _) rfl bH (iM _) ?_));intro u2 g2 k2 z2;go_wp2_with fail;exact bX (eX results77 _ _ w.heap.size (aB s.v1) 82 (0,0) underlying82 bH rfl g2) rfl ⟨rfl,((Ch.refl _ _).alloc _).trans' k2 (fun k hk e=>by omega)⟩
theorem CV(fb:Nat)(L:Lay)(x:akA)(n:Nat)(hn:n<2)(w:World)(h:Cm w fb L x):Calls prog 35 #[.pointer (some ⟨fb,0,none⟩),.int .i64 (n:Int)] w fun e w'=>e= .returned (.tuple #[.agg (aB (x.t.gW n)).toArray,.int .i64 0])∧Sm w w':=by have hpt:=h.pt;have hfl:=h.lt;have l0:∀o,_:=fun o=>bC L (n:Int) (w.alloc o);rw[iP (show 0≤(n:Int)∧(n:Int)<2 by omega)]at l0;have l1:∀o,_:=fun o=>Cb L x.t n hn (w.alloc o) (h.te.sm ((Ch.refl _ _).alloc _));generalize x.t.gW n=p at*;clear h;go_enter func35,ntmps35;go_wp2_with (first|(go_at_call 76;refine(l0 _).mono ?_;rintro e w1 ⟨rfl,hw1⟩;subst hw1)|(go_at_call 77;refine(l1 _).mono ?_;rintro e w1 ⟨rfl,s1⟩)|(refine bK _ rfl 82 (.tmp 4) (.tmp 19) rfl w.heap.size [.int .i64 0,.int .i64 0,.bool false,.bool false,.bool false,.bool false,.int .i64 0,.int .i64 0,.int .i64 0,.int .i64 0,.int .i64 0,.bool false] (aB p) rfl _ rfl rfl 82 ((s1.block _ (by simp) id).trans (bV _ _)) rfl bH (iM p) ?_));intro u2 g2 k2 z2;go_wp2_with fail;exact bX (bf results35 _ _ w.heap.size (aB p) 82 (0,0) underlying82 bH rfl g2) rfl ⟨rfl,(((Ch.refl _ _).alloc _).trans s1).trans' k2 (fun k hk e=>by omega)⟩
end Go.Proofs.YtheibfffilomcaaGreatDoor
