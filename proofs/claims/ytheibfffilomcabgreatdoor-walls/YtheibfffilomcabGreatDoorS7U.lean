import Derived.Test.YtheibfffilomcabGreatDoorS4U
set_option linter.all false
set_option maxHeartbeats 1600000
namespace Go.Ren
open Go.Conc Go.ConcN
open Go.ConcR (KK wgBlock WgAt stA smA rd wr Payload Aside2 DC0 Bk g_of_ofEvents bk_of_mute ofEvent_loc_mark ofEvent_cell deafBehind_cons deafBehind_one ofEvent_mk again_blocked)
set_option linter.unusedSimpArgs false
set_option linter.unusedVariables false
set_option linter.unusedSectionVars false
def hand (S:Nat→Nat→Prop) (j:Nat):Nat→Nat→Prop:=fun k=>if k=j+1 then S 0 else if k=0 then fun _=>False else S k
section
variable [Payload] {c:dR} {j:Nat} {gs:Array Goroutine} {w w':World} {t:Trace} {D:Nat→WD} {rk:Nat→Rk} {S:Nat→Nat→Prop} {d0:Nat} {sl:Option (Nat × Nat)} {tag:CTag} {f0:Nat} {a:Goroutine} {st sm:Int}
theorem dR.Core.spawn (G:c.Geo) (h:c.Core j gs w t D rk S 0) {a' child:Goroutine} {x y:MemOp} {r' r0:Rk} (hx:x.g=0∧x.act= .go (j+1)) (hy:y.g=j+1∧y.act= .start)
 (hc:GT c.P false c.Bs (c.ES j) r' (S 0) child w):c.Core (j+1) ((gs.setIfInBounds 0 a').push child) w (t++ #[x,y]) (upd D j ⟨7,0,0⟩) (upd (upd rk (j+1) r') 0 r0) (hand S j) 0:=by
 have hm:∀op∈ #[x,y],op=x∨op=y:=by intro op hop;simpa using hop
 have hst:∀op∈ #[x,y],op.act≠ .mark .disable∧op.act≠ .mark .enable:=by
  intro op hop;rcases hm op hop with rfl|rfl
  ·rw[hx.2];exact⟨by simp,by simp⟩
  ·rw[hy.2];exact⟨by simp,by simp⟩
 have hnt:∀op∈ #[x,y],op.act.touch?=none:=by
  intro op hop;rcases hm op hop with rfl|rfl
  ·rw[hx.2];rfl
  ·rw[hy.2];rfl
 have e1:hand S j (j+1)=S 0:=by simp[hand]
 have e2:∀k,k≠0→k≠j+1→hand S j k=S k:=fun k h1 h2=>by simp[hand,h1,h2]
 have e3:∀b,¬hand S j 0 b:=fun b=>by simp[hand]
 have back:∀k b,hand S j k b→∃k',S k' b∧(k=j+1→k'=0)∧(k≠j+1→k'=k∧k≠0):=by
  intro k b hb;by_cases h1:k=j+1
  ·subst h1;rw[e1]at hb;exact⟨0,hb,fun _=>rfl,fun h=>absurd rfl h⟩
  ·by_cases h0:k=0
   ·subst h0;exact absurd hb (e3 b)
   ·rw[e2 k h0 h1]at hb;exact⟨k,hb,fun h=>absurd h h1,fun _=>⟨rfl,h0⟩⟩
 have own':∀k b,hand S j k b→c.B0≤b∧b<w.heap.size:=fun k b hb=>let⟨k',h1,_⟩:=back k b hb;h.env.own k' b h1;have KV:∀k k' b,hand S j k b→hand S j k' b→k=k':=by
  intro k k' b h1 h2;obtain⟨u,a1,a2,a3⟩:=back k b h1;obtain⟨v,b1,b2,b3⟩:=back k' b h2;have:=h.env.Sj _ _ _ a1 b1;by_cases p:k=j+1<;>by_cases q:k'=j+1
  ·omega
  ·have:=a2 p;have:=b3 q;omega
  ·have:=a3 p;have:=b2 q;omega
  ·have:=a3 p;have:=b3 q;omega
 have A:=apart G.hW G.hC G.hCW (fun k b x=>(own' k b x).1) KV;have ct1:CT (ShN c.Wg) (Eb c.C (hand S j)) (RdT c.Wg c.C c.B0) t j:=by
  refine JS h.env.ct (fun k l k1 kj hl=>?_) (fun k l k1 kj hl=>.inl ?_)
  ·simp only[Eb,e2 k (by omega) (by omega)];exact hl
  ·simp only[Eb,e2 k (by omega) (by omega)]at hl;exact hl
 refine⟨⟨own',KV,h.env.low,h.env.base,h.env.os,h.env.o,h.env.tape,fun i z hz b hb=>?_,ct1.fork A hx hy h.deaf0⟩,by simp[h.size],fun i hi=>?_,h.norel.app fun op hop=>?_,by rw[Deaf_still t 0 _ hst,h.deaf0],fun i hi=>?_,fun i hi hs=>?_,fun i hi hs=>?_,h.pay,fun k b hk hb=>?_⟩
 ·obtain⟨op,ho,hz'⟩:=touch_of hz;rcases getElem?_append_cases ho with⟨_,ho'⟩|⟨_,hou⟩
  ·exact h.env.seen i z (by rw[touchAt_of ho'];exact hz') b hb
  ·rw[hnt op hou]at hz';cases hz'
 ·rcases Nat.lt_or_ge i j with hlt|hge
  ·obtain⟨g,hg,hsg⟩:=h.wk i hlt;refine⟨g,?_,by rw[upd_ne D _ (by omega),upd_ne _ _ (by omega),upd_ne _ _ (by omega),e2 _ (by omega) (by omega)];exact hsg⟩;rw[Array.getElem?_push_lt (by simp[h.size];omega), ←Array.getElem?_eq_getElem,Array.getElem?_setIfInBounds_ne (by omega)];exact hg
  ·obtain rfl:i=j:=by omega
   refine⟨child,?_,by rw[upd_same,upd_ne _ _ (by omega),upd_same,e1];exact .inl ⟨rfl,rfl,rfl,hc⟩⟩;rw[show i+1=(gs.setIfInBounds 0 a').size by simp[h.size],Array.getElem?_push_size]
 ·rcases hm op hop with rfl|rfl
  ·rw[hx.2];simp
  ·rw[hy.2];simp
 ·rw[Deaf_still t _ _ hst];rcases Nat.lt_or_ge i j with hlt|hge
  ·rw[h.deafW i hlt,upd_ne D _ (by omega)]
  ·obtain rfl:i=j:=by omega
   rw[upd_same];exact Deaf_absent fun a op ha e=>by have:=h.env.ct.gs a op ha;omega
 ·rcases Nat.lt_or_ge i j with hlt|hge
  ·rw[upd_ne D _ (by omega)]at hs;obtain⟨r,hr⟩:=h.rel i hlt hs;refine⟨r,hr.not fun op hop=>?_⟩;rcases hm op hop with rfl|rfl
   ·rw[hx.1];omega
   ·rw[hy.1];omega
  ·obtain rfl:i=j:=by omega
   rw[upd_same]at hs;simp at hs
 ·rcases Nat.lt_or_ge i j with hlt|hge
  ·rw[upd_ne D _ (by omega)]at hs;exact h.has i hlt hs
  ·obtain rfl:i=j:=by omega
   rw[upd_same]at hs;simp at hs
 ·rw[e2 k (by omega) (by omega)]at hb;exact h.up k b (by omega) hb
theorem dR.workerStep (G:c.Geo) (ha:gs[0]? =some a) (hcs:c.CX tag j f0 (rk 0) d0 (S 0) a w) (h:c.Core j gs w t D rk S d0) {i:Nat} (hi:i<j) {g g':Goroutine} {es:Array Event} {s' m' dd':Nat} {r':Rk} {st' sm':Int} (hg:gs[i+1]? =some g)
 (hgo:stepG c.P false g w= .go g' w' es) (E:Eff c.ty c.Wg c.C c.n (i+1) (S (i+1)) w w') (hes:∀e∈es,OkOp c.Wg c.C c.B0 (i+1) w'.heap.size (grown (S (i+1)) w w') {g:=i+1,fn:=g.frame.fn,pos:=g.frame.place,act:=.ofEvent e})
 (hs':c.WX i ⟨s',m',dd'⟩ r' (grown (S (i+1)) w w') g' w') (hnr:∀e∈es,e.loc≠ .mark (.release (stA c.Wg))) (hdeaf:deafBehind (D i).deaf es=dd')
 (hrel:s'≤6→∃r,oF c.Wg (t++MemOp.ofEvents (i+1) g.frame.fn g.frame.place es) (i+1) r) (hhas:s'≤6→Has c.C i (c.val i) w') (hwg:WgAt c.ty c.Wg w' st' sm')
 (hmode:∀tag',(tag'=tag∨(tag= .blk∧tag'= .w3))→(mayWake c.P g=true→g'.status= .running→tag'≠ .blk)→Go.ConcN.Mode j (upd D i ⟨s',m',dd'⟩) tag' st' sm')
 (hlt:(s'<(D i).stage∧cnt ⟨s',m',dd'⟩≤cnt (D i))∨(s'=(D i).stage∧(Rk.Lt r' (rk (i+1))∨(r'=rk (i+1)∧m'+1=(D i).fuel)))):
 ∃m₁ ops μ',runT c.P (crowd gs w sl) (i+1)=(.next m₁,ops)∧Lt3 (c.n+1) μ' (phi c.n (Vc j D) tag+Ssum j D,rk,f0+2*Fsum j D)∧c.IX μ' m₁ (t++ops):=by
 obtain⟨tag',f',hcs',hf',htag,hwk⟩:=hcs.wokenBy G ⟨E.ry h.env G.hW G.hC (by omega),E.live⟩ g g';have hb:=hcs.bound;have hrun:=runT_crowd_go (P:=c.P) (sl:=sl) (i:=i+1) hg (by simpa using hgo);have e1:=sumTo_upd D (⟨s',m',dd'⟩:WD) cnt hi;have e2:=sumTo_upd D (⟨s',m',dd'⟩:WD) WD.stage hi;have e3:=sumTo_upd D (⟨s',m',dd'⟩:WD) WD.fuel hi
 refine⟨_,_,(phi c.n (Vc j (upd D i ⟨s',m',dd'⟩)) tag'+Ssum j (upd D i ⟨s',m',dd'⟩),upd rk (i+1) r',f'+2*Fsum j (upd D i ⟨s',m',dd'⟩)),hrun,?_,
  _,w',sl,j,upd D i ⟨s',m',dd'⟩,upd rk (i+1) r',grow S (i+1) w w',tag',f',d0,woken c.P g g' w' a,st',sm',rfl,by rw[get_map_set _ _ _ _ (by omega),ha];rfl,
  by rw[upd_ne rk _ (by omega),ji _ _ _ (by omega)];exact hcs',h.stepW G hi E (Ic hes) hs' hnr hdeaf hrel hhas,hwg,hmode tag' htag hwk,rfl⟩
 rw[phi_retag c.n _ htag];simp only[Vc,Ssum,Fsum]at*;rcases hlt with⟨h1,h2⟩|⟨h1,h2⟩
 ·refine Lt3.one ?_;have:=phi_mono c.n (v':=sumTo j fun a=>cnt (upd D i ⟨s',m',dd'⟩ a)) (v:=sumTo j fun a=>cnt (D a)) (by omega) tag;omega
 ·have ec:cnt (⟨s',m',dd'⟩:WD)=cnt (D i):=by simp only[cnt,h1]
  have ev:(sumTo j fun a=>cnt (upd D i ⟨s',m',dd'⟩ a))=sumTo j fun a=>cnt (D a):=by omega
  have es':(sumTo j fun a=>(upd D i ⟨s',m',dd'⟩ a).stage)=sumTo j fun a=>(D a).stage:=by omega
  rw[ev,es'];rcases h2 with h2|⟨h2,h3⟩
  ·exact Lt3.two rfl ⟨i+1,by omega,by rw[upd_same];exact h2,fun k hk=>upd_ne rk _ hk⟩
  ·refine Lt3.three rfl ?_ (by omega);funext k;by_cases e:k=i+1
   ·subst e;rw[upd_same];exact h2
   ·rw[upd_ne rk _ e]
theorem Qb {α:Type} (f:Nat→α) (i:Nat):upd f i (f i)=f:=by
 funext k;by_cases e:k=i
 ·subst e;rw[upd_same]
 ·rw[upd_ne f _ e]
theorem dR.callerStep (G:c.Geo) (ha:gs[0]? =some a) (h:c.Core j gs w t D rk S d0) {a':Goroutine} {es:Array Event} {tag':CTag} {f':Nat} {r':Rk} {st' sm':Int} (hgo:stepG c.P true a w= .go a' w' es)
 (E:Eff c.ty c.Wg c.C c.n 0 (S 0) w w') (hes:∀e∈es,OkOp c.Wg c.C c.B0 0 w'.heap.size (grown (S 0) w w') {g:=0,fn:=a.frame.fn,pos:=a.frame.place,act:=.ofEvent e}) (hnr:∀e∈es,e.loc≠ .mark (.release (stA c.Wg)))
 (hcs':c.CX tag' j f' r' (deafBehind d0 es) (grown (S 0) w w') a' w') (hwg:WgAt c.ty c.Wg w' st' sm') (hmode:Go.ConcN.Mode j D tag' st' sm')
 (hlt:phi c.n (Vc j D) tag'<phi c.n (Vc j D) tag∨(phi c.n (Vc j D) tag'=phi c.n (Vc j D) tag∧(Rk.Lt r' (rk 0)∨(r'=rk 0∧f'<f0)))):
 ∃m₁ ops μ',runT c.P (crowd gs w sl) 0=(.next m₁,ops)∧Lt3 (c.n+1) μ' (phi c.n (Vc j D) tag+Ssum j D,rk,f0+2*Fsum j D)∧c.IX μ' m₁ (t++ops):=by
 have hrun:=runT_crowd_go (P:=c.P) (sl:=sl) (i:=0) ha (by simpa using hgo)
 refine⟨_,_,(phi c.n (Vc j D) tag'+Ssum j D,upd rk 0 r',f'+2*Fsum j D),hrun,?_,
  _,w',sl,j,D,upd rk 0 r',grow S 0 w w',tag',f',deafBehind d0 es,a',st',sm',rfl,get_map_set_same _ _ _ (by rw[h.size];omega),by rw[upd_same,iB];exact hcs',h.step0 G E (Ic hes) hnr,hwg,hmode,rfl⟩
 rcases hlt with h1|⟨h1,h2|⟨h2,h3⟩⟩
 ·exact Lt3.one (by omega)
 ·rw[h1];exact Lt3.two rfl ⟨0,by omega,by rw[upd_same];exact h2,fun k hk=>upd_ne rk _ hk⟩
 ·rw[h1];exact Lt3.three rfl (by rw[h2];exact Qb rk 0) (by omega)
end
end Go.Ren
namespace Go.Ren
open Go.Conc Go.ConcN
open Go.ConcR (KK wgBlock WgAt stA smA rd wr Payload Aside2 DC0 Bk g_of_ofEvents bk_of_mute ofEvent_loc_mark ofEvent_cell deafBehind_cons deafBehind_one ofEvent_mk again_blocked)
set_option linter.unusedSimpArgs false
set_option linter.unusedVariables false
set_option linter.unusedSectionVars false
section
variable [Payload] {ty:TypeId} {Wg C B0 n j k:Nat} {w0 w w':World} {t:Trace} {S:Nat→Nat→Prop} {Sk:Nat→Prop} {es:Array Event}
theorem Eff.refl (w:World):Eff ty Wg C n k Sk w w:=⟨fun _ _ _ _ _=>rfl,Nat.le_refl _,rfl,rfl,rfl,id,id,fun _ _=>rfl⟩
theorem Eff.SF (hW:Wg<B0) (hC:C<B0) (h:Env Wg C B0 j w0 w t S) (y:GY (Jq Wg C B0) (S k) w w' es):Eff ty Wg C n k (S k) w w':=by
 have st:∀b,b<B0→w'.heap[b]? =w.heap[b]? :=fun b hb=>y.keep b (Nat.lt_of_lt_of_le hb h.low) fun x=>by have:=(h.own _ _ x).1;omega
 exact⟨fun b h1 h2 _ _=>y.keep b h1 h2,y.size,y.os,y.output,y.tape,fun⟨s1,s2,hl⟩=>⟨s1,s2,hl.of_block (st Wg hW)⟩,fun⟨cs,h1,h2⟩=>⟨cs,(st C hC).trans h1,h2⟩,fun i _=>cell_of_block (st C hC) i⟩
theorem Eff.of_wg (a:Aside Wg w w') (hl:WgLive ty Wg w') (hCW:C≠Wg):Eff ty Wg C n k Sk w w':=
 ⟨fun b _ _ h _=>a.block b h,Nat.le_of_eq a.size.symm,a.os,a.output,a.tape,fun _=>hl,fun⟨cs,h1,h2⟩=>⟨cs,(a.block C hCW).trans h1,h2⟩,fun i _=>cell_of_block (a.block C hCW) i⟩
theorem Eff.of_cell {i:Nat} (a:AsideCell C n i w w') (hCW:C≠Wg):Eff ty Wg C n (i+1) Sk w w':=
 ⟨fun b _ _ _ h=>a.block b h,Nat.le_of_eq a.size.symm,a.os,a.output,a.tape,fun⟨s1,s2,hl⟩=>⟨s1,s2,hl.of_block (a.block Wg (Ne.symm hCW))⟩,a.pay,fun i' h=>a.cells i' (by omega)⟩
theorem yU {S:Nat→Prop} (e:w'.heap.size=w.heap.size):grown S w w'=S:=by
 funext b;apply propext;constructor
 ·rintro(h|h)
  ·exact h
  ·omega
 ·exact .inl
end
section
variable [Payload] {c:dR} {j:Nat} {gs:Array Goroutine} {w w':World} {t:Trace} {D:Nat→WD} {rk:Nat→Rk} {S:Nat→Nat→Prop} {d0:Nat} {sl:Option (Nat × Nat)} {tag:CTag} {f0:Nat} {a:Goroutine} {st sm:Int}
theorem dR.Pf (G:c.Geo) (ha:gs[0]? =some a) (hcs:c.CX tag j f0 (rk 0) d0 (S 0) a w) (h:c.Core j gs w t D rk S d0) (hwg:WgAt c.ty c.Wg w st sm) (hmode:Go.ConcN.Mode j D tag st sm) {i:Nat} (hi:i<j) {g:Goroutine} (hg:gs[i+1]? =some g)
 (h7:(D i).stage=7) (hd:(D i).deaf=0) {m:Nat} (hk:Goes c.P false (RW c.ty c.Wg c.C c.n 0 (i+1-1)) (DWs c.Wg (yA c.C) NJ c.C c.n (i+1)) (AtR0 c.P c.ty c.Wg c.C c.n 0 (i+1) (c.val i)) m g w)
 (hlt:∀m',m=m'+1→Rk.Lt .none (rk (i+1))∨(.none=rk (i+1)∧m'+1=(D i).fuel)):
 ∃m₁ ops μ',runT c.P (crowd gs w sl) (i+1)=(.next m₁,ops)∧Lt3 (c.n+1) μ' (phi c.n (Vc j D) tag+Ssum j D,rk,f0+2*Fsum j D)∧c.IX μ' m₁ (t++ops):=by
 have hdk:Deaf t (i+1)=0:=by rw[h.deafW i hi,hd]
 have hWs:c.Wg<w.heap.size:=Nat.lt_of_lt_of_le G.hW h.env.low;have hCs:c.C<w.heap.size:=Nat.lt_of_lt_of_le G.hC h.env.low;rcases Goes.cases hk with hstop|⟨m',rfl,hstep⟩
 ·obtain⟨_,hhas,g',hgo,m₂,hk2⟩:=hstop w (RW.refl w);exact dR.workerStep G ha hcs h hi hg hgo (.refl w) (fun e he=>by simp at he;subst he;exact oO rfl) (.inr ⟨rfl,.k1 hk2⟩) (by intro e he;simp at he;subst he;simp[Go.ConcR.mk]) (by rw[hd];rfl)
   (fun _=>⟨t.size,oF.new hdk _ _⟩) (fun _=>by simpa using hhas) hwg (fun _ ht _=>(hmode.counted hi (by omega) (.inl rfl) _ _).retag ht) (.inl ⟨by omega,by simp[cnt,h7]⟩)
 ·obtain⟨g',w',es,hgo,⟨hac,hev⟩,hg'⟩:=hstep w (RW.refl w);simp only[Nat.add_sub_cancel]at hac;refine dR.workerStep G ha hcs h hi hg hgo (.of_cell hac G.hCW) (fun e he=>O4 (by rw[hac.size];exact hCs) (by rw[hac.size];exact hWs) G.hCW (hev e he)) (.inr ⟨rfl,.r0 hg'⟩) (fun e he=>(hev e he).2.2.2)
   (by rw[hd];exact deafBehind_idle (fun e he=>⟨(hev e he).2.1,(hev e he).2.2.1⟩) 0) (fun h=>by omega) (fun h=>by omega) (hwg.of_block (hac.block c.Wg (Ne.symm G.hCW)))
   (fun _ ht _=>Mode.retag (by have:=hmode.same (i:=i) m' 0;rwa[h7]at this) ht) (.inr ⟨h7.symm,hlt m' rfl⟩)
theorem dR.stepWorker (G:c.Geo) (ha:gs[0]? =some a) (hcs:c.CX tag j f0 (rk 0) d0 (S 0) a w) (h:c.Core j gs w t D rk S d0) (hwg:WgAt c.ty c.Wg w st sm) (hmode:Go.ConcN.Mode j D tag st sm) {i:Nat} (hi:i<j) {g:Goroutine} (hg:gs[i+1]? =some g) (hrun:g.status= .running):
 ∃m₁ ops μ',runT c.P (crowd gs w sl) (i+1)=(.next m₁,ops)∧Lt3 (c.n+1) μ' (phi c.n (Vc j D) tag+Ssum j D,rk,f0+2*Fsum j D)∧c.IX μ' m₁ (t++ops):=by
 obtain⟨g₁,hg₁,hs⟩:=h.wk i hi;obtain rfl:g=g₁:=by rw[hg]at hg₁;exact Option.some.inj hg₁
 have hWs:c.Wg<w.heap.size:=Nat.lt_of_lt_of_le G.hW h.env.low;rcases hs with⟨h7,hfu,hd,hT⟩|⟨hr,hs⟩
 ·generalize lU:rk (i+1)=r at hT;cases r with
  |none=>exact hT.elim
  |leaf=>obtain⟨m,hk⟩:=(hT w (.refl w)).2 h.pay ⟨_,_,hwg⟩;exact dR.Pf G ha hcs h hwg hmode hi hg h7 hd hk fun m' _=>.inl (by rw[lU];exact .leaf)
  |node f=>
   obtain⟨g',w',es,hgo,hy,hT'⟩:=hT.2 w (.refl w);have E:Eff c.ty c.Wg c.C c.n (i+1) (S (i+1)) w w':=.SF G.hW G.hC h.env hy;refine dR.workerStep G ha hcs h hi hg hgo E (fun e he=>ER G.hW h.env.low hy.size (fun b hb=>h.env.own _ b hb) (hy.evs e he)) (.inl ⟨rfl,rfl,rfl,hT'⟩) (fun e he=>(jB (hy.evs e he)).2.2)
    (by rw[hd];exact deafBehind_idle (fun e he=>⟨(jB (Wg:=c.Wg) (hy.evs e he)).1,(jB (Wg:=c.Wg) (hy.evs e he)).2.1⟩) 0) (fun h=>by omega) (fun h=>by omega)
    (hwg.of_block (hy.keep c.Wg hWs fun x=>by have:=(h.env.own _ _ x).1;have:=G.hW;omega)) (fun _ ht _=>Mode.retag (by have:=hmode.same (i:=i) 0 0;rwa[h7]at this) ht) (.inr ⟨h7.symm,.inl (by rw[lU];exact .node f _)⟩)
 ·generalize hst:(D i).stage=s at hs;generalize hfu:(D i).fuel=m at hs;generalize hde:(D i).deaf=dd at hs;have hb:=hcs.bound;have hn:=G.hn;have hVj:=Vc_le j D;have hdk:Deaf t (i+1)=dd:=by rw[h.deafW i hi,hde]
  have bookG:∀{g':Goroutine} {w':World} {es:Array Event} {s' m' dd':Nat} {st' sm':Int},stepG c.P false g w= .go g' w' es→Aside c.Wg w w'→WgAt c.ty c.Wg w' st' sm'→(∀e∈es,Bk c.Wg e)→
   (∀jx e,es[jx]? =some e→(MemAct.ofEvent e).touch?=none∨0<deafBehind dd (es.extract 0 jx))→WSit c.P c.ty c.Wg c.C c.n (yA c.C) NJ 0 (i+1) (c.val i) s' m' dd' g' w'→deafBehind dd es=dd'→s≤6→
   (∀tag',(tag'=tag∨(tag= .blk∧tag'= .w3))→(mayWake c.P g=true→g'.status= .running→tag'≠ .blk)→Go.ConcN.Mode j (upd D i ⟨s',m',dd'⟩) tag' st' sm')→((s'<s∧cnt ⟨s',m',dd'⟩≤cnt (D i))∨(s'=s∧m'+1=m))→
   ∃m₁ ops μ',runT c.P (crowd gs w sl) (i+1)=(.next m₁,ops)∧Lt3 (c.n+1) μ' (phi c.n (Vc j D) tag+Ssum j D,rk,f0+2*Fsum j D)∧c.IX μ' m₁ (t++ops):=by
   intro g' w' es s' m' dd' st' sm' hgo hAs hwg' hbk hd hs' hdd h6 hmode' hlt;exact dR.workerStep G ha hcs h hi hg hgo (.of_wg hAs ⟨_,_,hwg'⟩ G.hCW) (fun e he=>Kc (by rw[hAs.size];exact hWs) (hbk e he)) (.inr ⟨rfl,hs'⟩) (norel_of_Bk hbk) (by rw[hde];exact hdd)
    (fun _=>let⟨r,hr⟩:=h.rel i hi (by omega);⟨r,hr.book hdk _ _ hbk hd⟩) (fun _=>(cell_of_block (hAs.block c.C G.hCW) i).trans (h.has i hi (by omega))) hwg' hmode' (by
      rw[hst,hfu]
      exact hlt.imp id fun x=>⟨x.1,.inr ⟨hr.symm,x.2⟩⟩)
  have book:∀{g':Goroutine} {w':World} {es:Array Event} {s' m' dd':Nat} {st' sm':Int},stepG c.P false g w= .go g' w' es→Aside c.Wg w w'→WgAt c.ty c.Wg w' st' sm'→(∀e∈es,Bk c.Wg e)→
   (∀jx e,es[jx]? =some e→(MemAct.ofEvent e).touch?=none∨0<deafBehind dd (es.extract 0 jx))→WSit c.P c.ty c.Wg c.C c.n (yA c.C) NJ 0 (i+1) (c.val i) s' m' dd' g' w'→deafBehind dd es=dd'→s≤6→
   Go.ConcN.Mode j (upd D i ⟨s',m',dd'⟩) tag st' sm'→((s'<s∧cnt ⟨s',m',dd'⟩≤cnt (D i))∨(s'=s∧m'+1=m))→
   ∃m₁ ops μ',runT c.P (crowd gs w sl) (i+1)=(.next m₁,ops)∧Lt3 (c.n+1) μ' (phi c.n (Vc j D) tag+Ssum j D,rk,f0+2*Fsum j D)∧c.IX μ' m₁ (t++ops):=
   fun hgo hAs hwg' hbk hd hs' hdd h6 hmode' hlt=>bookG hgo hAs hwg' hbk hd hs' hdd h6 (fun _ ht _=>hmode'.retag ht) hlt
  have idle:∀{g':Goroutine} {m':Nat},stepG c.P false g w= .go g' w #[]→WSit c.P c.ty c.Wg c.C c.n (yA c.C) NJ 0 (i+1) (c.val i) s m' dd g' w→m'+1=m→s≤6→
   ∃m₁ ops μ',runT c.P (crowd gs w sl) (i+1)=(.next m₁,ops)∧Lt3 (c.n+1) μ' (phi c.n (Vc j D) tag+Ssum j D,rk,f0+2*Fsum j D)∧c.IX μ' m₁ (t++ops):=by
   intro g' m' hgo hs' hm h6;exact book hgo (.refl c.Wg w) hwg (by simp) (by simp) hs' rfl h6 (by have:=hmode.same (i:=i) m' dd;rwa[hst]at this) (.inr ⟨rfl,hm⟩)
  have same:∀(q dd':Nat),Go.ConcN.Mode j (upd D i ⟨s,q,dd'⟩) tag st sm:=fun q dd'=>by have:=hmode.same (i:=i) q dd';rwa[hst]at this
  cases hs with
  |r0 hk=>exact dR.Pf G ha hcs h hwg hmode hi hg hst hde hk fun m' e=>.inr ⟨hr.symm,by omega⟩
  |k1 hk=>
   rcases Goes.cases hk with hstop|⟨m',rfl,hstep⟩
   ·obtain⟨_,g',hgo,m₂,hk⟩:=hstop w (RW.refl w);exact book hgo (.refl c.Wg w) hwg bk_dis (by intro jx e he;exact .inl (by have:=Array.mem_of_getElem? he;simp at this;subst this;rfl)) (.d1 hk) rfl (by omega)
     (hmode.counted hi (by omega) (.inr rfl) _ _) (.inl ⟨by omega,by simp[cnt,hst]⟩)
   ·obtain⟨g',w',es,hgo,⟨rfl,rfl⟩,hg'⟩:=hstep w (RW.refl w);exact idle hgo (.k1 hg') rfl (by omega)
  |d1 hk=>
   rcases Goes.cases hk with hstop|⟨m',rfl,hstep⟩
   ·obtain⟨_,hall⟩:=hstop w (RW.refl w);have hc1:cnt (D i)=1:=by simp[cnt,hst]
    have hV1:1≤Vc j D:=by have:=le_sumTo (f:=fun x=>cnt (D x)) hi;simp only[Vc];omega
    have df2:∀jx e,(#[rd (stA c.Wg),wr (stA c.Wg)]:Array Event)[jx]? =some e→(MemAct.ofEvent e).touch?=none∨0<deafBehind 1 ((#[rd (stA c.Wg),wr (stA c.Wg)]:Array Event).extract 0 jx):=by
     intro jx e he
     match jx,he with
     | 0,_=>exact .inr (by simp[deafBehind])
     | 1,_=>exact .inr (by simp[deafBehind,rd])
     |jx+2,he=>simp at he
    have opq:∀q,OpenSt j D→OpenSt j (upd D i ⟨1,q,1⟩):=fun q h a ha=>by
     by_cases e:a=i
     ·subst e;rw[upd_same];simp
     ·rw[upd_ne D _ e];exact h a ha
    have vq:∀q,Vc j (upd D i ⟨1,q,1⟩)+1=Vc j D:=fun q=>by have:=Vc_upd D (⟨1,q,1⟩:WD) hi;have h0:cnt (⟨1,q,1⟩:WD)=0:=rfl;omega
    cases hmode with
    |opn h1 h2 h3=>
     obtain⟨v,hv⟩:∃v,Vc j D+pend tag=v+1:=⟨Vc j D+pend tag-1,by omega⟩;rw[hv]at hwg;have hw1:WgAt c.ty c.Wg w (((v:Nat)+1)*KK+((0:Nat):Int)) 0:=by simpa using hwg
     obtain⟨g',hgo,_,hq⟩:=hall v 0 (by omega) (by omega) hw1;obtain⟨q,hq⟩:=hq (by omega);have hv':Vc j (upd D i ⟨1,q,1⟩)+pend tag=v:=by have:=vq q;omega
     refine book hgo (aside_setCell w (stA c.Wg) _) (hwg.setSt _) bk_rw df2 (.quit hq) rfl (by omega) ?_ (.inl ⟨by omega,by simp[cnt]⟩);have e:((v:Nat):Int)*KK+((0:Nat):Int)=((Vc j (upd D i ⟨1,q,1⟩)+pend tag:Nat):Int)*KK:=by rw[hv'];simp
     rw[e];exact .opn h1 (opq q h2) (fun vs ev=>by have:=h3 vs ev;have:=vq q;omega)
    |reg h1 h2 h3=>
     obtain⟨v,hv⟩:∃v,Vc j D=v+1:=⟨Vc j D-1,by omega⟩;rw[hv]at hwg;have hw1:WgAt c.ty c.Wg w (((v:Nat)+1)*KK+((1:Nat):Int)) 0:=by simpa using hwg
     obtain⟨g',hgo,hl,hq⟩:=hall v 1 (by omega) (by omega) hw1;by_cases hv0:v=0
     ·subst hv0;obtain⟨m₂,hk⟩:=hl ⟨rfl,rfl⟩;refine book hgo (aside_setCell w (stA c.Wg) _) (hwg.setSt _) bk_rw df2 (.d2 hk) rfl (by omega) ?_ (.inl ⟨by omega,by simp[cnt]⟩);have hoth:∀a,a<j→a≠i→(D a).stage=1:=fun a ha e=>by have c0:=others_uncounted hi hv hc1 a ha e;have:=h2 a ha;simp only[cnt]at c0;split at c0<;>omega
      have:=Mode.last (j:=j) (D:=upd D i ⟨4,m₂,1⟩) (tag:=tag) i h1 hi (by rw[upd_same];simp) (fun a ha e=>by rw[upd_ne D _ e];exact hoth a ha e);rw[upd_same]at this;simpa using this
     ·obtain⟨q,hq⟩:=hq (by omega);refine book hgo (aside_setCell w (stA c.Wg) _) (hwg.setSt _) bk_rw df2 (.quit hq) rfl (by omega) ?_ (.inl ⟨by omega,by simp[cnt]⟩);have e:((v:Nat):Int)*KK+((1:Nat):Int)=((Vc j (upd D i ⟨1,q,1⟩):Nat):Int)*KK+1:=by have:=vq q;rw[show Vc j (upd D i ⟨1,q,1⟩)=v by omega];simp
      rw[e];exact .reg h1 (opq q h2) (by have:=vq q;omega)
    |last L _ h2 h3 h4=>
     by_cases e:i=L
     ·subst e;omega
     ·have:=h4 i hi e;omega
    |sema h2=>have:=h2 i hi;omega
    |fin _ h2=>have:=h2 i hi;omega
   ·obtain⟨g',w',es,hgo,⟨rfl,rfl⟩,hg'⟩:=hstep w (RW.refl w);exact idle hgo (.d1 hg') rfl (by omega)
  |d2 hk=>
   rcases Goes.cases hk with hstop|⟨m',rfl,hstep⟩
   ·obtain⟨_,hx⟩:=hstop w (RW.refl w);obtain⟨hW3,hoth,rfl,rfl⟩:=hmode.isLast hi (by omega);simp only[hst]at hwg;obtain⟨g',hgo,m₂,hk⟩:=hx (by simpa using hwg);refine book hgo (.refl c.Wg w) hwg bk_rd (by intro jx e he;match jx,he with| 0,_=>exact .inr (by simp[deafBehind])|jx+1,he=>simp at he) (.d3 hk) rfl (by omega) ?_ (.inl ⟨by omega,by simp[cnt]⟩);have:=Mode.last (j:=j) (D:=upd D i ⟨3,m₂,1⟩) (tag:=tag) i hW3 hi (by rw[upd_same];simp) (fun a ha e=>by rw[upd_ne D _ e];exact hoth a ha e);rw[upd_same]at this;simpa using this
   ·obtain⟨g',w',es,hgo,⟨rfl,rfl⟩,hg'⟩:=hstep w (RW.refl w);exact idle hgo (.d2 hg') rfl (by omega)
  |d3 hk=>
   rcases Goes.cases hk with hstop|⟨m',rfl,hstep⟩
   ·obtain⟨_,hx⟩:=hstop w (RW.refl w);obtain⟨hW3,hoth,rfl,rfl⟩:=hmode.isLast hi (by omega);simp only[hst]at hwg;obtain⟨g',hgo,m₂,hk⟩:=hx (by simpa using hwg);refine book hgo (aside_setCell w (stA c.Wg) _) (hwg.setSt 0) (by intro e he;simp at he;subst he;exact bk_cell _ _ rfl) (by intro jx e he;match jx,he with| 0,_=>exact .inr (by simp[deafBehind])|jx+1,he=>simp at he) (.d4 hk) rfl (by omega) ?_ (.inl ⟨by omega,by simp[cnt]⟩);have:=Mode.last (j:=j) (D:=upd D i ⟨2,m₂,1⟩) (tag:=tag) i hW3 hi (by rw[upd_same];simp) (fun a ha e=>by rw[upd_ne D _ e];exact hoth a ha e);rw[upd_same]at this;simpa using this
   ·obtain⟨g',w',es,hgo,⟨rfl,rfl⟩,hg'⟩:=hstep w (RW.refl w);exact idle hgo (.d3 hg') rfl (by omega)
  |d4 hk=>
   rcases Goes.cases hk with hstop|⟨m',rfl,hstep⟩
   ·obtain⟨_,hmw,hx⟩:=hstop w (RW.refl w);obtain⟨hW3,hoth,rfl,rfl⟩:=hmode.isLast hi (by omega);simp only[hst]at hwg;obtain⟨g',hgo,q,hq⟩:=hx (by simpa using hwg);have hrun':g'.status= .running:=by
     cases q with
     |zero=>exact absurd hq.2 (by decide)
     |succ q=>exact hq.elim (fun x=>absurd x.2 (by decide)) (fun x=>x.1)
    refine bookG hgo (aside_setCell w (smA c.Wg) _) (hwg.setSm 1) (es:=semEvents (smA c.Wg)) bk_sem ?_ (.quit hq) (by simp[deafBehind,semEvents]) (by omega) ?_ (.inl ⟨by omega,by simp[cnt]⟩)
    ·intro jx e he
     match jx,he with
     | 0,he=>simp[semEvents]at he;subst he;exact .inl rfl
     | 1,_=>exact .inr (by simp[deafBehind,semEvents])
     | 2,_=>exact .inr (by simp[deafBehind,semEvents])
     | 3,he=>simp[semEvents]at he;subst he;exact .inl rfl
     |jx+4,he=>simp[semEvents]at he
    ·intro tag' ht hw;have hnb:=hw hmw hrun';have e3:tag'= .w3:=by
      rcases ht with rfl|⟨_,rfl⟩
      ·cases tag'<;>first|rfl|exact hW3.elim|exact absurd rfl hnb
      ·rfl
     subst e3;simp only[if_true];exact .sema fun a ha=>by
      by_cases e:a=i
      ·subst e;rw[upd_same]
      ·rw[upd_ne D _ e];exact hoth a ha e
   ·obtain⟨g',w',es,hgo,⟨rfl,rfl⟩,hg'⟩:=hstep w (RW.refl w);exact idle hgo (.d4 hg') rfl (by omega)
  |quit hk=>
   cases m with
   |zero=>rw[hk.1]at hrun;cases hrun
   |succ q=>
    rcases hk with⟨hf,_⟩|⟨_,g',es,hmute,hstep,hq⟩
    ·rw[hf]at hrun;cases hrun
    ·have hbk:∀e∈es,Bk c.Wg e:=fun e he=>bk_of_mute (hmute e he);have hno:∀jx e,es[jx]? =some e→(MemAct.ofEvent e).touch?=none∨0<deafBehind dd (es.extract 0 jx):=fun jx e he=>.inl (touch_mute (hmute e (Array.mem_of_getElem? he)));exact book (hstep w) (.refl c.Wg w) hwg hbk hno (.quit hq) rfl (by omega) (same _ _) (.inr ⟨rfl,rfl⟩)
end
end Go.Ren
namespace Go.Ren
open Go.Conc Go.ConcN
open Go.ConcR (KK wgBlock WgAt stA smA rd wr Payload Aside2 DC0 Bk g_of_ofEvents bk_of_mute ofEvent_loc_mark ofEvent_cell deafBehind_cons deafBehind_one ofEvent_mk again_blocked)
set_option linter.unusedSimpArgs false
set_option linter.unusedVariables false
set_option linter.unusedSectionVars false
structure Gu (Wg:Nat) (t:Trace):Prop where
 clean:∀said,¬Race said t
 known:∀i x,touchAt t i=some x→x.loc.isMemory=true→Knows t 0 i∨(ShN Wg x.loc∧x.kind= .atomic)
 over:t.HandedOver
 hears:Deaf t 0=0
def dR.DX [Payload] (c:dR) (m:Machine) (t:Trace):Prop:=
 ∃(gs:Array Goroutine) (w:World) (sl:Option (Nat × Nat)) (a:Goroutine) (q:Nat→Nat),m=crowd gs w sl∧gs[0]? =some a∧c.fin a w∧Leavers c.P t gs q∧Gu c.Wg t∧PayAt c.C c.n w∧(∀i,i<c.n→Has c.C i (c.val i) w)∧
  (∀b,c.Bs b→w.heap[b]? =c.w0.heap[b]?)∧w.os=c.w0.os∧w.output=c.w0.output∧w.tape=c.w0.tape∧c.B0≤w.heap.size
theorem Vl {Wg n:Nat} {t:Trace} {q:Nat} (hcl:∀said,¬Race said t) (hgs:∀(i:Nat) (op:MemOp),t[i]? =some op→op.g≤n) (hrel:∀i,i<n→∃r,oF Wg t (i+1) r∧r<q) (hn:NoRelease (stA Wg) t)
 (hq:t.act? q=some (.mark (.acquire (stA Wg)))) (hg:t.g? q=some 0) (hh:t.heard q) (hd:Deaf t 0=0):Gu Wg t:=by
 have all:∀i g,t.g? i=some g→g≠0→∃r,oF Wg t g r∧r<q:=by intro i g hgi hne;obtain⟨op,ho,rfl⟩:=Option.map_eq_some_iff.1 hgi;have:=hgs i op ho;have:=hrel (op.g-1) (by omega);rwa[show op.g-1+1=op.g by omega]at this
 refine⟨hcl,fun i x hx hm=>?_,handedOver_all (fun i g h1 h2=>let⟨r,h3,h4⟩:=all i g h1 h2;⟨r,h3.QK,h4⟩) hn hq hg hh,hd⟩;obtain⟨op,ho,hx'⟩:=touch_of hx;by_cases h0:op.g=0
 ·have:=knows_own ho;rw[h0]at this;exact .inl this
 ·have hgi:t.g? i=some op.g:=by simp[Trace.g?,ho]
  obtain⟨r,hr,hrq⟩:=all i op.g hgi h0;have edge:HappensBefore t r q:=.single (.inr ⟨.marked hrq (.inr hr.QK.act) hq (fun k _ _=>hn k),hr.QK.heard,hh⟩);obtain⟨z,hz,hz0⟩:=Option.map_eq_some_iff.1 hg;rcases Nat.lt_trichotomy i r with hlt|rfl|hgt
  ·exact .inl ⟨q,z,hz,hz0,.inr (.trans (.single (.inl ⟨hlt,op.g,hgi,hr.QK.g⟩)) edge)⟩
  ·exact .inl ⟨q,z,hz,hz0,.inr edge⟩
  ·right;refine⟨hr.sh i x hgt hgi hx,?_⟩;have:=hr.QK.after i hgt hgi;apply Classical.byContradiction;intro hk;exact this ⟨x,hx,hm,.inl hk⟩
section
variable [Payload] {c:dR} {j:Nat} {gs:Array Goroutine} {w w':World} {t:Trace} {D:Nat→WD} {rk:Nat→Rk} {S:Nat→Nat→Prop} {d0:Nat} {sl:Option (Nat × Nat)} {tag tag':CTag} {f0 f':Nat} {a a':Goroutine} {st sm st' sm':Int} {es:Array Event}
theorem dR.idleC (G:c.Geo) (ha:gs[0]? =some a) (h:c.Core j gs w t D rk S d0) (hwg:WgAt c.ty c.Wg w st sm) (hmode:Go.ConcN.Mode j D tag st sm)
 (hgo:stepG c.P true a w= .go a' w' es) (hD:c.DS w w' es) (hcs':c.CX tag j f' .none d0 (S 0) a' w') (hf:Rk.Lt .none (rk 0)∨(.none=rk 0∧f'<f0)):
 ∃m₁ ops μ',runT c.P (crowd gs w sl) 0=(.next m₁,ops)∧Lt3 (c.n+1) μ' (phi c.n (Vc j D) tag+Ssum j D,rk,f0+2*Fsum j D)∧c.IX μ' m₁ (t++ops):=by
 obtain⟨rfl,hev⟩:=hD;have hWs:c.Wg<w'.heap.size:=Nat.lt_of_lt_of_le G.hW h.env.low;have hdf:deafBehind d0 es=d0:=deafBehind_idle (fun e he=>⟨(tN (hev e he)).1,(tN (hev e he)).2.1⟩) d0;exact dR.callerStep G ha h hgo (.refl w') (fun e he=>Ls hWs (hev e he)) (fun e he=>(tN (hev e he)).2.2) (by rw[hdf,gV];exact hcs') hwg hmode (.inr ⟨rfl,hf⟩)
theorem dR.bookC (G:c.Geo) (ha:gs[0]? =some a) (h:c.Core j gs w t D rk S d0) (hgo:stepG c.P true a w= .go a' w' es) (hAs:Aside c.Wg w w') (hwg':WgAt c.ty c.Wg w' st' sm') (hbk:∀e∈es,Bk c.Wg e)
 (hcs':c.CX tag' j f' .none (deafBehind d0 es) (S 0) a' w') (hmode':Go.ConcN.Mode j D tag' st' sm') (hlt:phi c.n (Vc j D) tag'<phi c.n (Vc j D) tag∨(phi c.n (Vc j D) tag'=phi c.n (Vc j D) tag∧ .none=rk 0∧f'<f0)):
 ∃m₁ ops μ',runT c.P (crowd gs w sl) 0=(.next m₁,ops)∧Lt3 (c.n+1) μ' (phi c.n (Vc j D) tag+Ssum j D,rk,f0+2*Fsum j D)∧c.IX μ' m₁ (t++ops):=
 dR.callerStep G ha h hgo (.of_wg hAs ⟨_,_,hwg'⟩ G.hCW) (fun e he=>Kc (by rw[hAs.size];exact Nat.lt_of_lt_of_le G.hW h.env.low) (hbk e he)) (norel_of_Bk hbk) (by rw[yU hAs.size];exact hcs') hwg' hmode' (hlt.imp id fun x=>⟨x.1,.inr x.2⟩)
theorem dR.w1Step (G:c.Geo) (ha:gs[0]? =some a) (h:c.Core c.n gs w t D rk S 1) (hwg:WgAt c.ty c.Wg w st sm) (hmode:Go.ConcN.Mode c.n D .w1 st sm) (hr:rk 0= .none) (hk:c.GP (S 0) (c.XW1 (S 0)) f0 a w):
 ∃m₁ ops μ',runT c.P (crowd gs w sl) 0=(.next m₁,ops)∧Lt3 (c.n+1) μ' (phi c.n (Vc c.n D) .w1+Ssum c.n D,rk,f0+2*Fsum c.n D)∧c.IX μ' m₁ (t++ops):=by
 have hn:=G.hn;rcases Goes.cases hk with hstop|⟨m',rfl,hstep⟩
 ·obtain⟨_,hall⟩:=hstop w (.refl w);obtain⟨ho,rfl,rfl,_⟩:=hmode.open_inv trivial;have hV:=Vc_le c.n D;obtain⟨a',hgo,h0,hne⟩:=hall (Vc c.n D) (by omega) (by simpa[pend]using hwg);by_cases hv:Vc c.n D=0
  ·obtain⟨m₂,hk⟩:=h0 hv;refine dR.bookC G ha h hgo (.refl c.Wg w) hwg bk_rd (tag':=.ke) (.ke hk) ?_ (.inl (by simp only[phi];omega));have e:((Vc c.n D+pend .w1:Nat):Int)*KK=0:=by rw[hv];simp[pend]
   rw[e];exact .fin trivial (allQuit_of ho hv)
  ·obtain⟨m₂,hk⟩:=hne hv;exact dR.bookC G ha h hgo (.refl c.Wg w) hwg bk_rd (tag':=.w2 (Vc c.n D)) (.w2 hk) (hmode.reopen trivial trivial rfl (fun vs e=>by cases e;omega)) (.inl (by simp only[phi];omega))
 ·obtain⟨a',w',es,hgo,hD,hg'⟩:=hstep w (.refl w);exact dR.idleC G ha h hwg hmode hgo hD (.w1 hg') (.inr ⟨hr.symm,by omega⟩)
theorem dR.SC (G:c.Geo) (ha:gs[0]? =some a) (h:c.Core j gs w t D rk S 0) (hwg:WgAt c.ty c.Wg w st sm) (hmode:Go.ConcN.Mode j D tag st sm) {r:Nat} {f:World × Goroutine × World→Rk} (lU:rk 0= .node f) (hT:GT c.P true c.Bs (c.Gv r) (.node f) (S 0) a w)
 (hcs:∀{rk':Rk} {S':Nat→Prop} {a':Goroutine} {w':World},GT c.P true c.Bs (c.Gv r) rk' S' a' w'→c.CX tag j 0 rk' 0 S' a' w'):
 ∃m₁ ops μ',runT c.P (crowd gs w sl) 0=(.next m₁,ops)∧Lt3 (c.n+1) μ' (phi c.n (Vc j D) tag+Ssum j D,rk,f0+2*Fsum j D)∧c.IX μ' m₁ (t++ops):=by
 obtain⟨a',w',es,hgo,hy,hT'⟩:=hT.2 w (.refl w);have hdf:deafBehind 0 es=0:=deafBehind_idle (fun e he=>⟨(jB (Wg:=c.Wg) (hy.evs e he)).1,(jB (Wg:=c.Wg) (hy.evs e he)).2.1⟩) 0;exact dR.callerStep G ha h hgo (.SF G.hW G.hC h.env hy) (fun e he=>ER G.hW h.env.low hy.size (fun b hb=>h.env.own _ b hb) (hy.evs e he)) (fun e he=>(jB (hy.evs e he)).2.2) (by rw[hdf];exact hcs hT')
  (hwg.of_block (hy.keep c.Wg (Nat.lt_of_lt_of_le G.hW h.env.low) fun x=>by have:=(h.env.own _ _ x).1;have:=G.hW;omega)) hmode (.inr ⟨rfl,.inl (by rw[lU];exact .node f _)⟩)
theorem dR.aaa (G:c.Geo) (ha:gs[0]? =some a) {r m:Nat} (hr:r<c.n) (h:c.Core (c.n-(r+1)) gs w t D rk S 0) (hwg:WgAt c.ty c.Wg w st sm) (hmode:Go.ConcN.Mode (c.n-(r+1)) D (.sp r 5) st sm) (hk:c.GP (S 0) (c.QE (S 0) (c.n-(r+1)) (c.NX r)) m a w)
 (hf:∀m',m=m'+1→Rk.Lt .none (rk 0)∨(.none=rk 0∧m'<f0)):
 ∃m₁ ops μ',runT c.P (crowd gs w sl) 0=(.next m₁,ops)∧Lt3 (c.n+1) μ' (phi c.n (Vc (c.n-(r+1)) D) (.sp r 5)+Ssum (c.n-(r+1)) D,rk,f0+2*Fsum (c.n-(r+1)) D)∧c.IX μ' m₁ (t++ops):=by
 rcases Goes.cases hk with hstop|⟨m',rfl,hstep⟩
 ·obtain⟨_,a',hgo,m₂,hk⟩:=hstop w (.refl w);exact dR.bookC G ha h hgo (.refl c.Wg w) hwg bk_dis (.sa1 hr hk) (hmode.reopen trivial trivial rfl (by simp)) (.inl (by simp only[phi];omega))
 ·obtain⟨a',w',es,hgo,hD,hg'⟩:=hstep w (.refl w);exact dR.idleC G ha h hwg hmode hgo hD (.skd hr hg') (hf m' rfl)
theorem dR.kdC (G:c.Geo) (ha:gs[0]? =some a) {m:Nat} (h:c.Core c.n gs w t D rk S 0) (hwg:WgAt c.ty c.Wg w st sm) (hmode:Go.ConcN.Mode c.n D .kd st sm) (hk:c.GP (S 0) (c.XKd (S 0)) m a w) (hf:∀m',m=m'+1→Rk.Lt .none (rk 0)∨(.none=rk 0∧m'<f0)):
 ∃m₁ ops μ',runT c.P (crowd gs w sl) 0=(.next m₁,ops)∧Lt3 (c.n+1) μ' (phi c.n (Vc c.n D) .kd+Ssum c.n D,rk,f0+2*Fsum c.n D)∧c.IX μ' m₁ (t++ops):=by
 have:=Vc_le c.n D;rcases Goes.cases hk with hstop|⟨m',rfl,hstep⟩
 ·obtain⟨_,a',hgo,m₂,hk⟩:=hstop w (.refl w);exact dR.bookC G ha h hgo (.refl c.Wg w) hwg bk_dis (.anch hk) (hmode.reopen trivial trivial rfl (by simp)) (.inl (by simp only[phi];omega))
 ·obtain⟨a',w',es,hgo,hD,hg'⟩:=hstep w (.refl w);exact dR.idleC G ha h hwg hmode hgo hD (.kd hg') (hf m' rfl)
end
end Go.Ren
