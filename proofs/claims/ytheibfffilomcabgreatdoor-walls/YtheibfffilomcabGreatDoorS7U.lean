import Derived.Test.YtheibfffilomcabGreatDoorS4U
set_option linter.all false
set_option maxHeartbeats 1600000
namespace Go.Ren
open Go.Conc Go.ConcN
open Go.ConcR (KK wgBlock WgAt stA smA rd wr Payload Aside2 DC0 Bk g_of_ofEvents bk_of_mute ofEvent_loc_mark ofEvent_cell deafBehind_cons deafBehind_one ofEvent_mk again_blocked)
set_option linter.unusedSimpArgs false
set_option linter.unusedVariables false
set_option linter.unusedSectionVars false
def hand (S:Nat→Nat→Prop) (j:Nat):Nat→Nat→Prop:=fun k=>if k=j+1 then S 0 else if k=0 then fun _=>False else S k
section
variable [Payload] {c:dR} {j:Nat} {gs:Array Goroutine} {w w':World} {t:Trace} {D:Nat→WD} {rk:Nat→Rk} {S:Nat→Nat→Prop} {d0:Nat} {sl:Option (Nat × Nat)} {tag:CTag} {f0:Nat} {a:Goroutine} {st sm:Int}
theorem dR.Core.spawn (G:c.Geo) (h:c.Core j gs w t D rk S 0) {a' child:Goroutine} {x y:MemOp} {r' r0:Rk} (hx:x.g=0∧x.act= .go (j+1)) (hy:y.g=j+1∧y.act= .start)
 (hc:GT c.P false c.Bs (c.ES j) r' (S 0) child w):c.Core (j+1) ((gs.setIfInBounds 0 a').push child) w (t++ #[x,y]) (upd D j ⟨7,0,0⟩) (upd (upd rk (j+1) r') 0 r0) (hand S j) 0:=by
 have ops:∀op∈ #[x,y],(op.g=0∧op.act= .go (j+1))∨(op.g=j+1∧op.act= .start):=fun op ho=>by
  rcases(show op=x∨op=y by simpa using ho)with rfl|rfl
  ·exact .inl hx
  ·exact .inr hy
 have hst:∀op∈ #[x,y],op.act≠ .mark .disable∧op.act≠ .mark .enable:=fun op ho=>by rcases ops op ho with z|z<;>simp[z.2]
 have hnt:∀op∈ #[x,y],op.act.touch?=none:=fun op ho=>by rcases ops op ho with z|z<;>rw[z.2]<;>rfl
 have aau:∀i,i<j→upd D j ⟨7,0,0⟩ i=D i:=fun i l=>upd_ne D _ (Nat.ne_of_lt l);have aat:∀i,i<j+1→(upd D j ⟨7,0,0⟩ i).stage≤6→i<j∧(D i).stage≤6:=fun i l z=>by
  by_cases q:i=j
  ·rw[q,upd_same]at z;exact absurd z (by decide)
  ·have l':i<j:=by omega
   exact⟨l',aau i l'▸z⟩
 have e1:hand S j (j+1)=S 0:=by simp[hand]
 have e2:∀k,k≠0→k≠j+1→hand S j k=S k:=fun k h1 h2=>by simp[hand,h1,h2]
 have e3:∀b,¬hand S j 0 b:=fun b=>by simp[hand]
 have back:∀k b,hand S j k b→∃k',S k' b∧(k=j+1→k'=0)∧(k≠j+1→k'=k∧k≠0):=by
  intro k b hb;by_cases h1:k=j+1
  ·subst h1;rw[e1]at hb;exact⟨0,hb,fun _=>rfl,fun h=>absurd rfl h⟩
  ·by_cases h0:k=0
   ·subst h0;exact absurd hb (e3 b)
   ·rw[e2 k h0 h1]at hb;exact⟨k,hb,fun h=>absurd h h1,fun _=>⟨rfl,h0⟩⟩
 have own':∀k b,hand S j k b→c.B0≤b∧b<w.heap.size:=fun k b hb=>let⟨k',h1,_⟩:=back k b hb;h.env.own k' b h1;have KV:∀k k' b,hand S j k b→hand S j k' b→k=k':=by
  intro k k' b h1 h2;obtain⟨u,a1,a2,a3⟩:=back k b h1;obtain⟨v,b1,b2,b3⟩:=back k' b h2;have:=h.env.Sj _ _ _ a1 b1;by_cases p:k=j+1<;>by_cases q:k'=j+1
  ·omega
  ·have:=a2 p;have:=b3 q;omega
  ·have:=a3 p;have:=b2 q;omega
  ·have:=a3 p;have:=b3 q;omega
 have A:=apart G.hW G.hC G.hCW (fun k b x=>(own' k b x).1) KV;have ct1:CT (ShN c.Wg) (Eb c.C (hand S j)) (RdT c.Wg c.C c.B0) t j:=by
  refine JS h.env.ct (fun k l k1 kj hl=>?_) (fun k l k1 kj hl=>.inl ?_)
  ·simp only[Eb,e2 k (by omega) (by omega)];exact hl
  ·simp only[Eb,e2 k (by omega) (by omega)]at hl;exact hl
 have kids:∀i,i<j+1→∃g,((gs.setIfInBounds 0 a').push child)[i+1]? =some g∧c.WX i (upd D j ⟨7,0,0⟩ i) (upd (upd rk (j+1) r') 0 r0 (i+1)) (hand S j (i+1)) g w:=fun i l=>by
  by_cases q:i=j
  ·subst q;exact⟨child,by rw[←show(gs.setIfInBounds 0 a').size=i+1 by simp[h.size]];exact Array.getElem?_push_size,by rw[upd_same,upd_ne _ _ (Nat.succ_ne_zero i),upd_same,e1];exact .inl ⟨rfl,rfl,rfl,hc⟩⟩
  ·have l':i<j:=by omega
   obtain⟨g,hg,y⟩:=h.wk i l';refine⟨g,?_,by rw[aau i l',upd_ne _ _ (Nat.succ_ne_zero i),upd_ne _ _ (by omega),e2 _ (Nat.succ_ne_zero i) (by omega)];exact y⟩;have sz:¬i+1=gs.size:=by rw[h.size];omega
   simpa[Array.getElem?_push,sz,Array.getElem?_setIfInBounds_ne (show 0≠i+1 by omega)]using hg
 have aaw:∀i,i<j+1→Deaf (t++ #[x,y]) (i+1)=(upd D j ⟨7,0,0⟩ i).deaf:=fun i l=>by
  rw[Deaf_still t _ _ hst];by_cases q:i=j
  ·rw[q,upd_same];exact Deaf_absent fun p op z e=>absurd (h.env.ct.gs p op z) (by omega)
  ·rw[aau i (by omega)];exact h.deafW i (by omega)
 have seen:∀i z,touchAt (t++ #[x,y]) i=some z→∀b,blk z.loc=some b→b<w.heap.size:=fun i z hz=>by
  obtain⟨op,ho,hz'⟩:=touch_of hz;rcases getElem?_append_cases ho with⟨_,o⟩|⟨_,o⟩
  ·exact h.env.seen i z ((touchAt_of o).trans hz')
  ·rw[hnt op o]at hz';cases hz'
 exact⟨⟨own',KV,h.env.low,h.env.base,h.env.os,h.env.o,h.env.tape,seen,ct1.fork A hx hy h.deaf0⟩,by simp[h.size],kids,h.norel.app fun op ho=>by rcases ops op ho with z|z<;>simp[z.2],
  (Deaf_still t 0 _ hst).trans h.deaf0,aaw,fun i l z=>let⟨l',z'⟩:=aat i l z;let⟨r,y⟩:=h.rel i l' z';⟨r,y.not fun op ho=>by rcases ops op ho with q|q<;>omega⟩,
  fun i l z=>let⟨l',z'⟩:=aat i l z;h.has i l' z',h.pay,fun k b hk hb=>h.up k b (by omega) (e2 k (by omega) (by omega)▸hb)⟩
theorem aaq {i:Nat} (x:WD) (hi:i<j):Vc j (upd D i x)+cnt (D i)=Vc j D+cnt x∧Ssum j (upd D i x)+(D i).stage=Ssum j D+x.stage∧Fsum j (upd D i x)+(D i).fuel=Fsum j D+x.fuel:=
 ⟨sumTo_upd D x cnt hi,sumTo_upd D x WD.stage hi,sumTo_upd D x WD.fuel hi⟩
theorem Qb {α:Type} (f:Nat→α) (i:Nat):upd f i (f i)=f:=funext fun k=>by by_cases e:k=i<;>simp[upd,e]
theorem aax {i s' m' d' f' N:Nat} {r':Rk} {tag':CTag} (hN:i+1<N) (hi:i<j) (hf:f'≤f0+1) (ht:∀v,phi c.n v tag'=phi c.n v tag)
 (hlt:(s'<(D i).stage∧cnt ⟨s',m',d'⟩≤cnt (D i))∨(s'=(D i).stage∧(Rk.Lt r' (rk (i+1))∨(r'=rk (i+1)∧m'+1=(D i).fuel)))):
 Lt3 N (phi c.n (Vc j (upd D i ⟨s',m',d'⟩)) tag'+Ssum j (upd D i ⟨s',m',d'⟩),upd rk (i+1) r',f'+2*Fsum j (upd D i ⟨s',m',d'⟩)) (phi c.n (Vc j D) tag+Ssum j D,rk,f0+2*Fsum j D):=by
 obtain⟨a1,a2,a3⟩:=aaq (D:=D) ⟨s',m',d'⟩ hi;rw[ht];dsimp only at a2 a3;rcases hlt with⟨h1,h2⟩|⟨h1,h2⟩
 ·have:=phi_mono c.n (show Vc j (upd D i ⟨s',m',d'⟩)≤Vc j D by omega) tag;exact Lt3.one (by omega)
 ·rw[show cnt ⟨s',m',d'⟩=cnt (D i) by simp[cnt,h1]]at a1;rw[Nat.add_right_cancel a1,show Ssum j (upd D i ⟨s',m',d'⟩)=Ssum j D by omega];rcases h2 with h2|⟨rfl,h3⟩
  ·exact Lt3.two rfl ⟨i+1,hN,by rw[upd_same];exact h2,fun k hk=>upd_ne rk _ hk⟩
  ·exact Lt3.three rfl (Qb rk (i+1)) (by omega)
theorem dR.workerStep (G:c.Geo) (ha:gs[0]? =some a) (hcs:c.CX tag j f0 (rk 0) d0 (S 0) a w) (h:c.Core j gs w t D rk S d0) {i:Nat} (hi:i<j) {g g':Goroutine} {es:Array Event} {s' m' dd':Nat} {r':Rk} {st' sm':Int} (hg:gs[i+1]? =some g)
 (hgo:stepG c.P false g w= .go g' w' es) (E:Eff c.ty c.Wg c.C c.n (i+1) (S (i+1)) w w') (hes:∀e∈es,OkOp c.Wg c.C c.B0 (i+1) w'.heap.size (grown (S (i+1)) w w') {g:=i+1,fn:=g.frame.fn,pos:=g.frame.place,act:=.ofEvent e})
 (hs':c.WX i ⟨s',m',dd'⟩ r' (grown (S (i+1)) w w') g' w') (hnr:∀e∈es,e.loc≠ .mark (.release (stA c.Wg))) (hdeaf:deafBehind (D i).deaf es=dd')
 (hrel:s'≤6→∃r,oF c.Wg (t++MemOp.ofEvents (i+1) g.frame.fn g.frame.place es) (i+1) r) (hhas:s'≤6→Has c.C i (c.val i) w') (hwg:WgAt c.ty c.Wg w' st' sm')
 (hmode:∀tag',(tag'=tag∨(tag= .blk∧tag'= .w3))→(mayWake c.P g=true→g'.status= .running→tag'≠ .blk)→Go.ConcN.Mode j (upd D i ⟨s',m',dd'⟩) tag' st' sm')
 (hlt:(s'<(D i).stage∧cnt ⟨s',m',dd'⟩≤cnt (D i))∨(s'=(D i).stage∧(Rk.Lt r' (rk (i+1))∨(r'=rk (i+1)∧m'+1=(D i).fuel)))):
 ∃m₁ ops μ',runT c.P (crowd gs w sl) (i+1)=(.next m₁,ops)∧Lt3 (c.n+1) μ' (phi c.n (Vc j D) tag+Ssum j D,rk,f0+2*Fsum j D)∧c.IX μ' m₁ (t++ops):=by
 obtain⟨tag',f',hcs',hf',htag,hwk⟩:=hcs.wokenBy G ⟨E.ry h.env G.hW G.hC (by omega),E.live⟩ g g';have hb:=hcs.bound;have hrun:=runT_crowd_go (P:=c.P) (sl:=sl) (i:=i+1) hg (by simpa using hgo)
 exact⟨_,_,_,hrun,aax (f':=f') (tag':=tag') (by omega) hi (by omega) (fun v=>phi_retag c.n v htag) hlt,
  _,w',sl,j,upd D i ⟨s',m',dd'⟩,upd rk (i+1) r',grow S (i+1) w w',tag',f',d0,woken c.P g g' w' a,st',sm',rfl,by rw[get_map_set _ _ _ _ (by omega),ha];rfl,
  by rw[upd_ne rk _ (by omega),ji _ _ _ (by omega)];exact hcs',h.stepW G hi E (Ic hes) hs' hnr hdeaf hrel hhas,hwg,hmode tag' htag hwk,rfl⟩
theorem dR.callerStep (G:c.Geo) (ha:gs[0]? =some a) (h:c.Core j gs w t D rk S d0) {a':Goroutine} {es:Array Event} {tag':CTag} {f':Nat} {r':Rk} {st' sm':Int} (hgo:stepG c.P true a w= .go a' w' es)
 (E:Eff c.ty c.Wg c.C c.n 0 (S 0) w w') (hes:∀e∈es,OkOp c.Wg c.C c.B0 0 w'.heap.size (grown (S 0) w w') {g:=0,fn:=a.frame.fn,pos:=a.frame.place,act:=.ofEvent e}) (hnr:∀e∈es,e.loc≠ .mark (.release (stA c.Wg)))
 (hcs':c.CX tag' j f' r' (deafBehind d0 es) (grown (S 0) w w') a' w') (hwg:WgAt c.ty c.Wg w' st' sm') (hmode:Go.ConcN.Mode j D tag' st' sm')
 (hlt:phi c.n (Vc j D) tag'<phi c.n (Vc j D) tag∨(phi c.n (Vc j D) tag'=phi c.n (Vc j D) tag∧(Rk.Lt r' (rk 0)∨(r'=rk 0∧f'<f0)))):
 ∃m₁ ops μ',runT c.P (crowd gs w sl) 0=(.next m₁,ops)∧Lt3 (c.n+1) μ' (phi c.n (Vc j D) tag+Ssum j D,rk,f0+2*Fsum j D)∧c.IX μ' m₁ (t++ops):=by
 have hrun:=runT_crowd_go (P:=c.P) (sl:=sl) (i:=0) ha (by simpa using hgo)
 refine⟨_,_,(phi c.n (Vc j D) tag'+Ssum j D,upd rk 0 r',f'+2*Fsum j D),hrun,?_,
  _,w',sl,j,D,upd rk 0 r',grow S 0 w w',tag',f',deafBehind d0 es,a',st',sm',rfl,get_map_set_same _ _ _ (by rw[h.size];omega),by rw[upd_same,iB];exact hcs',h.step0 G E (Ic hes) hnr,hwg,hmode,rfl⟩
 rcases hlt with h1|⟨h1,h2|⟨h2,h3⟩⟩
 ·exact Lt3.one (by omega)
 ·rw[h1];exact Lt3.two rfl ⟨0,by omega,by rw[upd_same];exact h2,fun k hk=>upd_ne rk _ hk⟩
 ·rw[h1];exact Lt3.three rfl (by rw[h2];exact Qb rk 0) (by omega)
end
end Go.Ren
namespace Go.Ren
open Go.Conc Go.ConcN
open Go.ConcR (KK wgBlock WgAt stA smA rd wr Payload Aside2 DC0 Bk g_of_ofEvents bk_of_mute ofEvent_loc_mark ofEvent_cell deafBehind_cons deafBehind_one ofEvent_mk again_blocked)
set_option linter.unusedSimpArgs false
set_option linter.unusedVariables false
set_option linter.unusedSectionVars false
section
variable [Payload] {ty:TypeId} {Wg C B0 n j k:Nat} {w0 w w':World} {t:Trace} {S:Nat→Nat→Prop} {Sk:Nat→Prop} {es:Array Event}
theorem Eff.refl (w:World):Eff ty Wg C n k Sk w w:=⟨fun _ _ _ _ _=>rfl,Nat.le_refl _,rfl,rfl,rfl,id,id,fun _ _=>rfl⟩
theorem Eff.SF (hW:Wg<B0) (hC:C<B0) (h:Env Wg C B0 j w0 w t S) (y:GY (Jq Wg C B0) (S k) w w' es):Eff ty Wg C n k (S k) w w':=by
 have st:∀b,b<B0→w'.heap[b]? =w.heap[b]? :=fun b hb=>y.keep b (Nat.lt_of_lt_of_le hb h.low) fun x=>by have:=(h.own _ _ x).1;omega
 exact⟨fun b h1 h2 _ _=>y.keep b h1 h2,y.size,y.os,y.output,y.tape,fun⟨s1,s2,hl⟩=>⟨s1,s2,hl.of_block (st Wg hW)⟩,fun⟨cs,h1,h2⟩=>⟨cs,(st C hC).trans h1,h2⟩,fun i _=>cell_of_block (st C hC) i⟩
theorem Eff.of_wg (a:Aside Wg w w') (hl:WgLive ty Wg w') (hCW:C≠Wg):Eff ty Wg C n k Sk w w':=
 ⟨fun b _ _ h _=>a.block b h,Nat.le_of_eq a.size.symm,a.os,a.output,a.tape,fun _=>hl,fun⟨cs,h1,h2⟩=>⟨cs,(a.block C hCW).trans h1,h2⟩,fun i _=>cell_of_block (a.block C hCW) i⟩
theorem Eff.of_cell {i:Nat} (a:AsideCell C n i w w') (hCW:C≠Wg):Eff ty Wg C n (i+1) Sk w w':=
 ⟨fun b _ _ _ h=>a.block b h,Nat.le_of_eq a.size.symm,a.os,a.output,a.tape,fun⟨s1,s2,hl⟩=>⟨s1,s2,hl.of_block (a.block Wg (Ne.symm hCW))⟩,a.pay,fun i' h=>a.cells i' (by omega)⟩
theorem yU {S:Nat→Prop} (e:w'.heap.size=w.heap.size):grown S w w'=S:=by
 funext b;apply propext;constructor
 ·rintro(h|h)
  ·exact h
  ·omega
 ·exact .inl
end
section
variable [Payload] {c:dR} {j:Nat} {gs:Array Goroutine} {w w':World} {t:Trace} {D:Nat→WD} {rk:Nat→Rk} {S:Nat→Nat→Prop} {d0:Nat} {sl:Option (Nat × Nat)} {tag:CTag} {f0:Nat} {a:Goroutine} {st sm:Int}
theorem dR.Pf (G:c.Geo) (ha:gs[0]? =some a) (hcs:c.CX tag j f0 (rk 0) d0 (S 0) a w) (h:c.Core j gs w t D rk S d0) (hwg:WgAt c.ty c.Wg w st sm) (hmode:Go.ConcN.Mode j D tag st sm) {i:Nat} (hi:i<j) {g:Goroutine} (hg:gs[i+1]? =some g)
 (h7:(D i).stage=7) (hd:(D i).deaf=0) {m:Nat} (hk:Goes c.P false (RW c.ty c.Wg c.C c.n 0 (i+1-1)) (DWs c.Wg (yA c.C) NJ c.C c.n (i+1)) (AtR0 c.P c.ty c.Wg c.C c.n 0 (i+1) (c.val i)) m g w)
 (hlt:∀m',m=m'+1→Rk.Lt .none (rk (i+1))∨(.none=rk (i+1)∧m'+1=(D i).fuel)):
 ∃m₁ ops μ',runT c.P (crowd gs w sl) (i+1)=(.next m₁,ops)∧Lt3 (c.n+1) μ' (phi c.n (Vc j D) tag+Ssum j D,rk,f0+2*Fsum j D)∧c.IX μ' m₁ (t++ops):=by
 have hdk:Deaf t (i+1)=0:=by rw[h.deafW i hi,hd]
 have hWs:c.Wg<w.heap.size:=Nat.lt_of_lt_of_le G.hW h.env.low;have hCs:c.C<w.heap.size:=Nat.lt_of_lt_of_le G.hC h.env.low;rcases Goes.cases hk with hstop|⟨m',rfl,hstep⟩
 ·obtain⟨_,hhas,g',hgo,m₂,hk2⟩:=hstop w (RW.refl w);exact dR.workerStep G ha hcs h hi hg hgo (.refl w) (fun e he=>by simp at he;subst he;exact oO rfl) (.inr ⟨rfl,.k1 hk2⟩) (by intro e he;simp at he;subst he;simp[Go.ConcR.mk]) (by rw[hd];rfl)
   (fun _=>⟨t.size,oF.new hdk _ _⟩) (fun _=>by simpa using hhas) hwg (fun _ ht _=>(hmode.counted hi (by omega) (.inl rfl) _ _).retag ht) (.inl ⟨by omega,by simp[cnt,h7]⟩)
 ·obtain⟨g',w',es,hgo,⟨hac,hev⟩,hg'⟩:=hstep w (RW.refl w);simp only[Nat.add_sub_cancel]at hac;refine dR.workerStep G ha hcs h hi hg hgo (.of_cell hac G.hCW) (fun e he=>O4 (by rw[hac.size];exact hCs) (by rw[hac.size];exact hWs) G.hCW (hev e he)) (.inr ⟨rfl,.r0 hg'⟩) (fun e he=>(hev e he).2.2.2)
   (by rw[hd];exact deafBehind_idle (fun e he=>⟨(hev e he).2.1,(hev e he).2.2.1⟩) 0) (fun h=>by omega) (fun h=>by omega) (hwg.of_block (hac.block c.Wg (Ne.symm G.hCW)))
   (fun _ ht _=>Mode.retag (by have:=hmode.same (i:=i) m' 0;rwa[h7]at this) ht) (.inr ⟨h7.symm,hlt m' rfl⟩)
def aav (d:Nat) (es:Array Event):Prop:=∀p e,es[p]? =some e→(MemAct.ofEvent e).touch?=none∨0<deafBehind d (es.extract 0 p)
theorem aai {es:Array Event} (h:∀e∈es,e.loc≠ .mark .disable∧e.loc≠ .mark .enable):aav 1 es:=fun p e _=>.inr (by
 rw[deafBehind_idle (fun x hx=>h x ?_)]
 ·exact Nat.one_pos
 ·obtain⟨q,hq⟩:=Array.mem_iff_getElem?.1 hx;rw[Array.getElem?_extract]at hq;split at hq
  ·exact Array.mem_of_getElem? hq
  ·cases hq)
theorem aak {d:Nat} {es:Array Event} (h:∀e∈es,(MemAct.ofEvent e).touch?=none):aav d es:=fun _ e he=>.inl (h e (Array.mem_of_getElem? he))
theorem aam {s q d i:Nat} (h3:isW3 tag) (hi:i<j) (hs:s=4∨s=3∨s=2) (ho:∀a,a<j→a≠i→(D a).stage=1):
 Go.ConcN.Mode j (upd D i ⟨s,q,d⟩) tag (if s=2 then 0 else 1) 0:=by
 simpa[upd]using Mode.last (j:=j) (D:=upd D i ⟨s,q,d⟩) i h3 hi (by simpa[upd]using hs) fun a ha e=>by simpa[upd,e]using ho a ha e
theorem aap {i:Nat} (hm:Go.ConcN.Mode j D tag st sm) (hi:i<j) (h5:(D i).stage=5):∃v x:Nat,x≤1∧v+1≤Vc j D+pend tag∧sm=0∧st=((v:Int)+1)*KK+x∧
 ((v=0∧x=1)→∀q,Go.ConcN.Mode j (upd D i ⟨4,q,1⟩) tag ((v:Int)*KK+x) 0)∧(¬(v=0∧x=1)→∀q,Go.ConcN.Mode j (upd D i ⟨1,q,1⟩) tag ((v:Int)*KK+x) 0):=by
 have hc:cnt (D i)=1:=by simp[cnt,h5]
 have pos:1≤Vc j D:=hc▸le_sumTo (f:=fun a=>cnt (D a)) hi;have less:∀q,Vc j (upd D i ⟨1,q,1⟩)=Vc j D-1:=fun q=>by have h0:=Vc_upd D (⟨1,q,1⟩:WD) hi;have h1:cnt (⟨1,q,1⟩:WD)=0:=rfl;omega
 have opn:∀q,OpenSt j D→OpenSt j (upd D i ⟨1,q,1⟩):=fun q ho a ha=>by
  by_cases e:a=i
  ·simp[upd,e]
  ·simpa[upd,e]using ho a ha
 cases hm with
 |opn g1 g2 g3=>
  refine⟨Vc j D+pend tag-1,0,by omega,by omega,rfl,?_,fun x=>absurd x.2 (by decide),fun _ q=>?_⟩
  ·rw[show((Vc j D+pend tag:Nat):Int)=((Vc j D+pend tag-1:Nat):Int)+1 by omega];simp
  ·have:=Mode.opn (j:=j) (D:=upd D i ⟨1,q,1⟩) g1 (opn q g2) fun vs e=>by have:=g3 vs e;have:=less q;omega
   rw[show Vc j (upd D i ⟨1,q,1⟩)+pend tag=Vc j D+pend tag-1 by have:=less q;omega]at this;simpa using this
 |reg g1 g2 g3=>
  refine⟨Vc j D-1,1,by omega,by omega,rfl,?_,fun x q=>?_,fun x q=>?_⟩
  ·rw[show((Vc j D:Nat):Int)=((Vc j D-1:Nat):Int)+1 by omega];simp
  ·have alone:∀a,a<j→a≠i→(D a).stage=1:=fun a ha e=>by have z:=others_uncounted hi (by omega) hc a ha e;rcases g2 a ha with y|y|y|y<;>first|exact y|simp[cnt,y]at z
   rw[x.1];simpa using aam (q:=q) (d:=1) g1 hi (.inl rfl) alone
  ·have:=Mode.reg (j:=j) (D:=upd D i ⟨1,q,1⟩) g1 (opn q g2) (by have:=less q;omega);rw[less q]at this;simpa using this
 |last L _ _ g3 g4=>exfalso;by_cases e:i=L;(subst e;omega);(have:=g4 i hi e;omega)
 |sema g2=>exfalso;have:=g2 i hi;omega
 |fin _ g2=>exfalso;have:=g2 i hi;omega
structure dR.Out (c:dR) (j i:Nat) (D:Nat→WD) (tag:CTag) (s m d:Nat) (g:Goroutine) (w:World) (g':Goroutine) (w':World) (es:Array Event) (s' m' d':Nat) (st' sm':Int):Prop where
 go:stepG c.P false g w= .go g' w' es
 aside:Aside c.Wg w w'
 wg:WgAt c.ty c.Wg w' st' sm'
 bk:∀e∈es,Bk c.Wg e
 hush:aav d es
 sit:WSit c.P c.ty c.Wg c.C c.n (yA c.C) NJ 0 (i+1) (c.val i) s' m' d' g' w'
 ear:deafBehind d es=d'
 mode:∀tag',(tag'=tag∨(tag= .blk∧tag'= .w3))→(mayWake c.P g=true→g'.status= .running→tag'≠ .blk)→Go.ConcN.Mode j (upd D i ⟨s',m',d'⟩) tag' st' sm'
 less:(s'<s∧cnt ⟨s',m',d'⟩≤cnt (D i))∨(s'=s∧m'+1=m)
theorem dR.o (G:c.Geo) (hb:Vc j D+pend tag≤c.n) (hwg:WgAt c.ty c.Wg w st sm) (hmode:Go.ConcN.Mode j D tag st sm) {i:Nat} (hi:i<j) {g:Goroutine} (hrun:g.status= .running) {s m d:Nat}
 (hD:(D i).stage=s) (h6:s≤6) (hs:WSit c.P c.ty c.Wg c.C c.n (yA c.C) NJ 0 (i+1) (c.val i) s m d g w):∃g' w' es s' m' d' st' sm',c.Out j i D tag s m d g w g' w' es s' m' d' st' sm':=by
 have hn:=G.hn;have keep:∀q d',∀tag',(tag'=tag∨(tag= .blk∧tag'= .w3))→Go.ConcN.Mode j (upd D i ⟨s,q,d'⟩) tag' st sm:=fun q d' tag' ht=>by subst hD;exact(hmode.same q d').retag ht
 have plain:∀{g':Goroutine} {q:Nat},stepG c.P false g w= .go g' w #[]→q+1=m→WSit c.P c.ty c.Wg c.C c.n (yA c.C) NJ 0 (i+1) (c.val i) s q d g' w→c.Out j i D tag s m d g w g' w #[] s q d st sm:=
  fun hgo e hs'=>⟨hgo,.refl _ _,hwg,by simp,aak (by simp),hs',rfl,fun t ht _=>keep _ _ t ht,.inr ⟨rfl,e⟩⟩
 have two:∀e∈(#[rd (stA c.Wg),wr (stA c.Wg)]:Array Event),e.loc≠ .mark .disable∧e.loc≠ .mark .enable:=by intro e he;simp at he;rcases he with rfl|rfl<;>simp[rd,wr]
 cases hs with
 |r0 hk=>omega
 |k1 hk=>
  rcases Goes.cases hk with stop|⟨q,rfl,step⟩
  ·obtain⟨_,g',hgo,q,hq⟩:=stop w (.refl w);exact⟨_,_,_,_,_,_,_,_,hgo,.refl _ _,hwg,bk_dis,aak (by simp[ofEvent_mk];rfl),.d1 hq,rfl,fun t ht _=>(hmode.counted hi (by omega) (.inr rfl) _ _).retag ht,.inl ⟨by omega,by simp[cnt,hD]⟩⟩
  ·obtain⟨g',_,_,hgo,⟨rfl,rfl⟩,y⟩:=step w (.refl w);exact⟨_,_,_,_,_,_,_,_,plain hgo rfl (.k1 y)⟩
 |d1 hk=>
  rcases Goes.cases hk with stop|⟨q,rfl,step⟩
  ·obtain⟨v,x,hx,hv,rfl,rfl,hl,hq⟩:=aap hmode hi hD;obtain⟨g',hgo,aal,aay⟩:=(stop w (.refl w)).2 v x hx (by omega) hwg;by_cases e:v=0∧x=1
   ·obtain⟨q,y⟩:=aal e;exact⟨_,_,_,_,_,_,_,_,hgo,aside_setCell w (stA c.Wg) _,hwg.setSt _,bk_rw,aai two,.d2 y,rfl,fun t ht _=>(hl e q).retag ht,.inl ⟨by omega,by simp[cnt]⟩⟩
   ·obtain⟨q,y⟩:=aay e;exact⟨_,_,_,_,_,_,_,_,hgo,aside_setCell w (stA c.Wg) _,hwg.setSt _,bk_rw,aai two,.quit y,rfl,fun t ht _=>(hq e q).retag ht,.inl ⟨by omega,by simp[cnt]⟩⟩
  ·obtain⟨g',_,_,hgo,⟨rfl,rfl⟩,y⟩:=step w (.refl w);exact⟨_,_,_,_,_,_,_,_,plain hgo rfl (.d1 y)⟩
 |d2 hk=>
  rcases Goes.cases hk with stop|⟨q,rfl,step⟩
  ·obtain⟨h3,ho,rfl,rfl⟩:=hmode.isLast hi (.inl hD);rw[hD]at hwg;obtain⟨g',hgo,q,y⟩:=(stop w (.refl w)).2 hwg;exact⟨_,_,_,_,_,_,_,_,hgo,.refl _ _,hwg,bk_rd,aai fun e he=>two e (by simp at he;simp[he]),.d3 y,rfl,fun t ht _=>(aam h3 hi (.inr (.inl rfl)) ho).retag ht,.inl ⟨by omega,by simp[cnt]⟩⟩
  ·obtain⟨g',_,_,hgo,⟨rfl,rfl⟩,y⟩:=step w (.refl w);exact⟨_,_,_,_,_,_,_,_,plain hgo rfl (.d2 y)⟩
 |d3 hk=>
  rcases Goes.cases hk with stop|⟨q,rfl,step⟩
  ·obtain⟨h3,ho,rfl,rfl⟩:=hmode.isLast hi (.inr (.inl hD));rw[hD]at hwg;obtain⟨g',hgo,q,y⟩:=(stop w (.refl w)).2 hwg
   exact⟨_,_,_,_,_,_,_,_,hgo,aside_setCell w (stA c.Wg) _,hwg.setSt 0,fun e he=>bk_rw e (by simp at he;simp[he]),aai fun e he=>two e (by simp at he;simp[he]),.d4 y,rfl,
    fun t ht _=>(aam h3 hi (.inr (.inr rfl)) ho).retag ht,.inl ⟨by omega,by simp[cnt]⟩⟩
  ·obtain⟨g',_,_,hgo,⟨rfl,rfl⟩,y⟩:=step w (.refl w);exact⟨_,_,_,_,_,_,_,_,plain hgo rfl (.d3 y)⟩
 |d4 hk=>
  rcases Goes.cases hk with stop|⟨q,rfl,step⟩
  ·obtain⟨h3,ho,rfl,rfl⟩:=hmode.isLast hi (.inr (.inr hD));rw[hD]at hwg;obtain⟨_,wake,k⟩:=stop w (.refl w);obtain⟨g',hgo,q,y⟩:=k hwg;have up:g'.status= .running:=by
    rcases q with _|q
    ·exact absurd y.2 (by decide)
    ·rcases y with y|y
     ·exact absurd y.2 (by decide)
     ·exact y.1
   refine⟨_,_,_,_,_,_,_,_,hgo,aside_setCell w (smA c.Wg) _,hwg.setSm 1,bk_sem,fun p e he=>?_,.quit y,by simp[deafBehind,semEvents],fun t ht hw=>?_,.inl ⟨by omega,by simp[cnt]⟩⟩
   ·rcases p with _|_|_|_|p<;>simp[semEvents]at he<;>first|(subst he;exact .inl rfl)|exact .inr (by simp[deafBehind,semEvents])
   ·have ne:=hw wake up;obtain rfl:t= .w3:=by
     rcases ht with rfl|ht
     ·cases t<;>first|rfl|exact absurd rfl ne|exact False.elim h3
     ·exact ht.2
    refine Mode.sema fun a ha=>?_;by_cases e:a=i
    ·simp[upd,e]
    ·simpa[upd,e]using ho a ha e
  ·obtain⟨g',_,_,hgo,⟨rfl,rfl⟩,y⟩:=step w (.refl w);exact⟨_,_,_,_,_,_,_,_,plain hgo rfl (.d4 y)⟩
 |quit hk=>
  rcases m with _|q
  ·exact absurd (hk.1.symm.trans hrun) (by decide)
  ·rcases hk with⟨e,_⟩|⟨_,g',es,mute,step,y⟩
   ·exact absurd (e.symm.trans hrun) (by decide)
   ·exact⟨_,_,_,_,_,_,_,_,step w,.refl _ _,hwg,fun e he=>bk_of_mute (mute e he),aak fun e he=>touch_mute (mute e he),.quit y,rfl,fun t ht _=>keep _ _ t ht,.inr ⟨rfl,rfl⟩⟩
theorem dR.stepWorker (G:c.Geo) (ha:gs[0]? =some a) (hcs:c.CX tag j f0 (rk 0) d0 (S 0) a w) (h:c.Core j gs w t D rk S d0) (hwg:WgAt c.ty c.Wg w st sm) (hmode:Go.ConcN.Mode j D tag st sm) {i:Nat} (hi:i<j) {g:Goroutine} (hg:gs[i+1]? =some g) (hrun:g.status= .running):
 ∃m₁ ops μ',runT c.P (crowd gs w sl) (i+1)=(.next m₁,ops)∧Lt3 (c.n+1) μ' (phi c.n (Vc j D) tag+Ssum j D,rk,f0+2*Fsum j D)∧c.IX μ' m₁ (t++ops):=by
 obtain⟨g₁,hg₁,hs⟩:=h.wk i hi;obtain rfl:g=g₁:=by rw[hg]at hg₁;exact Option.some.inj hg₁
 have hWs:c.Wg<w.heap.size:=Nat.lt_of_lt_of_le G.hW h.env.low;rcases hs with⟨h7,hfu,hd,hT⟩|⟨hr,hs⟩
 ·generalize lU:rk (i+1)=r at hT;cases r with
  |none=>exact hT.elim
  |leaf=>obtain⟨m,hk⟩:=(hT w (.refl w)).2 h.pay ⟨_,_,hwg⟩;exact dR.Pf G ha hcs h hwg hmode hi hg h7 hd hk fun m' _=>.inl (by rw[lU];exact .leaf)
  |node f=>
   obtain⟨g',w',es,hgo,hy,hT'⟩:=hT.2 w (.refl w);have E:Eff c.ty c.Wg c.C c.n (i+1) (S (i+1)) w w':=.SF G.hW G.hC h.env hy;refine dR.workerStep G ha hcs h hi hg hgo E (fun e he=>ER G.hW h.env.low hy.size (fun b hb=>h.env.own _ b hb) (hy.evs e he)) (.inl ⟨rfl,rfl,rfl,hT'⟩) (fun e he=>(jB (hy.evs e he)).2.2)
    (by rw[hd];exact deafBehind_idle (fun e he=>⟨(jB (Wg:=c.Wg) (hy.evs e he)).1,(jB (Wg:=c.Wg) (hy.evs e he)).2.1⟩) 0) (fun h=>by omega) (fun h=>by omega)
    (hwg.of_block (hy.keep c.Wg hWs fun x=>by have:=(h.env.own _ _ x).1;have:=G.hW;omega)) (fun _ ht _=>Mode.retag (by have:=hmode.same (i:=i) 0 0;rwa[h7]at this) ht) (.inr ⟨h7.symm,.inl (by rw[lU];exact .node f _)⟩)
 ·generalize hst:(D i).stage=s at hs;generalize hfu:(D i).fuel=m at hs;generalize hde:(D i).deaf=d at hs;by_cases h7:s=7
  ·subst h7;cases hs with
   |r0 hk=>exact dR.Pf G ha hcs h hwg hmode hi hg hst hde hk fun m' e=>.inr ⟨hr.symm,by omega⟩
  ·have h6:s≤6:=by cases hs<;>omega
   have hb:=hcs.bound;have hV:=Vc_le j D;obtain⟨g',w',es,s',m',d',st',sm',o⟩:=dR.o G (by omega) hwg hmode hi hrun hst h6 hs;exact dR.workerStep G ha hcs h hi hg o.go (.of_wg o.aside ⟨_,_,o.wg⟩ G.hCW) (fun e he=>Kc (by rw[o.aside.size];exact hWs) (o.bk e he)) (.inr ⟨rfl,o.sit⟩) (norel_of_Bk o.bk) (by rw[hde];exact o.ear)
    (fun _=>let⟨r,hr⟩:=h.rel i hi (by omega);⟨r,hr.book ((h.deafW i hi).trans hde) _ _ o.bk o.hush⟩) (fun _=>(cell_of_block (o.aside.block c.C G.hCW) i).trans (h.has i hi (by omega))) o.wg o.mode
    (by rw[hst,hfu];exact o.less.imp id fun x=>⟨x.1,.inr ⟨hr.symm,x.2⟩⟩)
end
end Go.Ren
namespace Go.Ren
open Go.Conc Go.ConcN
open Go.ConcR (KK wgBlock WgAt stA smA rd wr Payload Aside2 DC0 Bk g_of_ofEvents bk_of_mute ofEvent_loc_mark ofEvent_cell deafBehind_cons deafBehind_one ofEvent_mk again_blocked)
set_option linter.unusedSimpArgs false
set_option linter.unusedVariables false
set_option linter.unusedSectionVars false
structure Gu (Wg:Nat) (t:Trace):Prop where
 clean:∀said,¬Race said t
 known:∀i x,touchAt t i=some x→x.loc.isMemory=true→Knows t 0 i∨(ShN Wg x.loc∧x.kind= .atomic)
 over:t.HandedOver
 hears:Deaf t 0=0
def dR.DX [Payload] (c:dR) (m:Machine) (t:Trace):Prop:=
 ∃(gs:Array Goroutine) (w:World) (sl:Option (Nat × Nat)) (a:Goroutine) (q:Nat→Nat),m=crowd gs w sl∧gs[0]? =some a∧c.fin a w∧Leavers c.P t gs q∧Gu c.Wg t∧PayAt c.C c.n w∧(∀i,i<c.n→Has c.C i (c.val i) w)∧
  (∀b,c.Bs b→w.heap[b]? =c.w0.heap[b]?)∧w.os=c.w0.os∧w.output=c.w0.output∧w.tape=c.w0.tape∧c.B0≤w.heap.size
theorem Vl {Wg n:Nat} {t:Trace} {q:Nat} (hcl:∀said,¬Race said t) (hgs:∀(i:Nat) (op:MemOp),t[i]? =some op→op.g≤n) (hrel:∀i,i<n→∃r,oF Wg t (i+1) r∧r<q) (hn:NoRelease (stA Wg) t)
 (hq:t.act? q=some (.mark (.acquire (stA Wg)))) (hg:t.g? q=some 0) (hh:t.heard q) (hd:Deaf t 0=0):Gu Wg t:=by
 have all:∀i g,t.g? i=some g→g≠0→∃r,oF Wg t g r∧r<q:=by intro i g hgi hne;obtain⟨op,ho,rfl⟩:=Option.map_eq_some_iff.1 hgi;have:=hgs i op ho;have:=hrel (op.g-1) (by omega);rwa[show op.g-1+1=op.g by omega]at this
 refine⟨hcl,fun i x hx hm=>?_,handedOver_all (fun i g h1 h2=>let⟨r,h3,h4⟩:=all i g h1 h2;⟨r,h3.QK,h4⟩) hn hq hg hh,hd⟩;obtain⟨op,ho,hx'⟩:=touch_of hx;by_cases h0:op.g=0
 ·have:=knows_own ho;rw[h0]at this;exact .inl this
 ·have hgi:t.g? i=some op.g:=by simp[Trace.g?,ho]
  obtain⟨r,hr,hrq⟩:=all i op.g hgi h0;have edge:HappensBefore t r q:=.single (.inr ⟨.marked hrq (.inr hr.QK.act) hq (fun k _ _=>hn k),hr.QK.heard,hh⟩);obtain⟨z,hz,hz0⟩:=Option.map_eq_some_iff.1 hg;rcases Nat.lt_trichotomy i r with hlt|rfl|hgt
  ·exact .inl ⟨q,z,hz,hz0,.inr (.trans (.single (.inl ⟨hlt,op.g,hgi,hr.QK.g⟩)) edge)⟩
  ·exact .inl ⟨q,z,hz,hz0,.inr edge⟩
  ·right;refine⟨hr.sh i x hgt hgi hx,?_⟩;have:=hr.QK.after i hgt hgi;apply Classical.byContradiction;intro hk;exact this ⟨x,hx,hm,.inl hk⟩
section
variable [Payload] {c:dR} {j:Nat} {gs:Array Goroutine} {w w':World} {t:Trace} {D:Nat→WD} {rk:Nat→Rk} {S:Nat→Nat→Prop} {d0:Nat} {sl:Option (Nat × Nat)} {tag tag':CTag} {f0 f':Nat} {a a':Goroutine} {st sm st' sm':Int} {es:Array Event}
theorem dR.idleC (G:c.Geo) (ha:gs[0]? =some a) (h:c.Core j gs w t D rk S d0) (hwg:WgAt c.ty c.Wg w st sm) (hmode:Go.ConcN.Mode j D tag st sm)
 (hgo:stepG c.P true a w= .go a' w' es) (hD:c.DS w w' es) (hcs':c.CX tag j f' .none d0 (S 0) a' w') (hf:Rk.Lt .none (rk 0)∨(.none=rk 0∧f'<f0)):
 ∃m₁ ops μ',runT c.P (crowd gs w sl) 0=(.next m₁,ops)∧Lt3 (c.n+1) μ' (phi c.n (Vc j D) tag+Ssum j D,rk,f0+2*Fsum j D)∧c.IX μ' m₁ (t++ops):=by
 obtain⟨rfl,hev⟩:=hD;have hWs:c.Wg<w'.heap.size:=Nat.lt_of_lt_of_le G.hW h.env.low;have hdf:deafBehind d0 es=d0:=deafBehind_idle (fun e he=>⟨(tN (hev e he)).1,(tN (hev e he)).2.1⟩) d0;exact dR.callerStep G ha h hgo (.refl w') (fun e he=>Ls hWs (hev e he)) (fun e he=>(tN (hev e he)).2.2) (by rw[hdf,gV];exact hcs') hwg hmode (.inr ⟨rfl,hf⟩)
theorem dR.bookC (G:c.Geo) (ha:gs[0]? =some a) (h:c.Core j gs w t D rk S d0) (hgo:stepG c.P true a w= .go a' w' es) (hAs:Aside c.Wg w w') (hwg':WgAt c.ty c.Wg w' st' sm') (hbk:∀e∈es,Bk c.Wg e)
 (hcs':c.CX tag' j f' .none (deafBehind d0 es) (S 0) a' w') (hmode':Go.ConcN.Mode j D tag' st' sm') (hlt:phi c.n (Vc j D) tag'<phi c.n (Vc j D) tag∨(phi c.n (Vc j D) tag'=phi c.n (Vc j D) tag∧ .none=rk 0∧f'<f0)):
 ∃m₁ ops μ',runT c.P (crowd gs w sl) 0=(.next m₁,ops)∧Lt3 (c.n+1) μ' (phi c.n (Vc j D) tag+Ssum j D,rk,f0+2*Fsum j D)∧c.IX μ' m₁ (t++ops):=
 dR.callerStep G ha h hgo (.of_wg hAs ⟨_,_,hwg'⟩ G.hCW) (fun e he=>Kc (by rw[hAs.size];exact Nat.lt_of_lt_of_le G.hW h.env.low) (hbk e he)) (norel_of_Bk hbk) (by rw[yU hAs.size];exact hcs') hwg' hmode' (hlt.imp id fun x=>⟨x.1,.inr x.2⟩)
theorem dR.aad (G:c.Geo) (ha:gs[0]? =some a) (h:c.Core j gs w t D rk S d0) (hwg:WgAt c.ty c.Wg w st sm) (hmode:Go.ConcN.Mode j D tag st sm) {Stop:Goroutine→World→Prop} {m:Nat} (hk:c.GP (S 0) Stop m a w)
 (on_:∀q b,m=q+1→c.GP (S 0) Stop q b w→∃f',c.CX tag j f' .none d0 (S 0) b w∧(Rk.Lt .none (rk 0)∨(.none=rk 0∧f'<f0))) {Q:Prop}
 (into:(∃m₁ ops μ',runT c.P (crowd gs w sl) 0=(.next m₁,ops)∧Lt3 (c.n+1) μ' (phi c.n (Vc j D) tag+Ssum j D,rk,f0+2*Fsum j D)∧c.IX μ' m₁ (t++ops))→Q)
 (end_:(∀w₁,c.RL (S 0) w w₁→Stop a w₁)→Q):Q:=by
 rcases Goes.cases hk with z|⟨q,e,z⟩
 ·exact end_ z
 ·obtain⟨b,_,es,go,⟨rfl,ev⟩,y⟩:=z w (.refl w);obtain⟨f',x,l⟩:=on_ q b e y;exact into (dR.idleC G ha h hwg hmode go ⟨rfl,ev⟩ x l)
theorem dR.w1Step (G:c.Geo) (ha:gs[0]? =some a) (h:c.Core c.n gs w t D rk S 1) (hwg:WgAt c.ty c.Wg w st sm) (hmode:Go.ConcN.Mode c.n D .w1 st sm) (hr:rk 0= .none) (hk:c.GP (S 0) (c.XW1 (S 0)) f0 a w):
 ∃m₁ ops μ',runT c.P (crowd gs w sl) 0=(.next m₁,ops)∧Lt3 (c.n+1) μ' (phi c.n (Vc c.n D) .w1+Ssum c.n D,rk,f0+2*Fsum c.n D)∧c.IX μ' m₁ (t++ops):=by
 refine dR.aad G ha h hwg hmode hk (fun q _ e y=>⟨q,.w1 y,.inr ⟨hr.symm,by omega⟩⟩) id fun z=>?_;have le:=Vc_le c.n D;have lt:=G.hn;obtain⟨open_,rfl,rfl,_⟩:=hmode.open_inv trivial;obtain⟨b,go,none_,some_⟩:=(z w (.refl w)).2 (Vc c.n D) (by omega) (by simpa[pend]using hwg);rcases Nat.eq_zero_or_pos (Vc c.n D)with v|v
 ·obtain⟨q,y⟩:=none_ v;have fin:Go.ConcN.Mode c.n D .ke 0 0:=.fin trivial (allQuit_of open_ v);rw[show((Vc c.n D+pend .w1:Nat):Int)*KK=0 by simp[v,pend]]at hwg;exact dR.bookC G ha h go (.refl _ _) hwg bk_rd (.ke y) fin (.inl (by simp only[phi];omega))
 ·obtain⟨q,y⟩:=some_ (by omega);exact dR.bookC G ha h go (.refl _ _) hwg bk_rd (.w2 y) (hmode.reopen trivial trivial rfl fun vs e=>by cases e;omega) (.inl (by simp only[phi];omega))
theorem dR.SC (G:c.Geo) (ha:gs[0]? =some a) (h:c.Core j gs w t D rk S 0) (hwg:WgAt c.ty c.Wg w st sm) (hmode:Go.ConcN.Mode j D tag st sm) {r:Nat} {f:World × Goroutine × World→Rk} (lU:rk 0= .node f) (hT:GT c.P true c.Bs (c.Gv r) (.node f) (S 0) a w)
 (hcs:∀{rk':Rk} {S':Nat→Prop} {a':Goroutine} {w':World},GT c.P true c.Bs (c.Gv r) rk' S' a' w'→c.CX tag j 0 rk' 0 S' a' w'):
 ∃m₁ ops μ',runT c.P (crowd gs w sl) 0=(.next m₁,ops)∧Lt3 (c.n+1) μ' (phi c.n (Vc j D) tag+Ssum j D,rk,f0+2*Fsum j D)∧c.IX μ' m₁ (t++ops):=by
 obtain⟨a',w',es,hgo,hy,hT'⟩:=hT.2 w (.refl w);have hdf:deafBehind 0 es=0:=deafBehind_idle (fun e he=>⟨(jB (Wg:=c.Wg) (hy.evs e he)).1,(jB (Wg:=c.Wg) (hy.evs e he)).2.1⟩) 0;exact dR.callerStep G ha h hgo (.SF G.hW G.hC h.env hy) (fun e he=>ER G.hW h.env.low hy.size (fun b hb=>h.env.own _ b hb) (hy.evs e he)) (fun e he=>(jB (hy.evs e he)).2.2) (by rw[hdf];exact hcs hT')
  (hwg.of_block (hy.keep c.Wg (Nat.lt_of_lt_of_le G.hW h.env.low) fun x=>by have:=(h.env.own _ _ x).1;have:=G.hW;omega)) hmode (.inr ⟨rfl,.inl (by rw[lU];exact .node f _)⟩)
theorem dR.aaa (G:c.Geo) (ha:gs[0]? =some a) {r m:Nat} (hr:r<c.n) (h:c.Core (c.n-(r+1)) gs w t D rk S 0) (hwg:WgAt c.ty c.Wg w st sm) (hmode:Go.ConcN.Mode (c.n-(r+1)) D (.sp r 5) st sm) (hk:c.GP (S 0) (c.QE (S 0) (c.n-(r+1)) (c.NX r)) m a w)
 (hf:∀m',m=m'+1→Rk.Lt .none (rk 0)∨(.none=rk 0∧m'<f0)):
 ∃m₁ ops μ',runT c.P (crowd gs w sl) 0=(.next m₁,ops)∧Lt3 (c.n+1) μ' (phi c.n (Vc (c.n-(r+1)) D) (.sp r 5)+Ssum (c.n-(r+1)) D,rk,f0+2*Fsum (c.n-(r+1)) D)∧c.IX μ' m₁ (t++ops):=by
 refine dR.aad G ha h hwg hmode hk (fun q _ e y=>⟨q,.skd hr y,hf q e⟩) id fun z=>?_;obtain⟨_,b,go,q,y⟩:=z w (.refl w);exact dR.bookC G ha h go (.refl _ _) hwg bk_dis (.sa1 hr y) (hmode.reopen trivial trivial rfl nofun) (.inl (by simp only[phi];omega))
theorem dR.kdC (G:c.Geo) (ha:gs[0]? =some a) {m:Nat} (h:c.Core c.n gs w t D rk S 0) (hwg:WgAt c.ty c.Wg w st sm) (hmode:Go.ConcN.Mode c.n D .kd st sm) (hk:c.GP (S 0) (c.XKd (S 0)) m a w) (hf:∀m',m=m'+1→Rk.Lt .none (rk 0)∨(.none=rk 0∧m'<f0)):
 ∃m₁ ops μ',runT c.P (crowd gs w sl) 0=(.next m₁,ops)∧Lt3 (c.n+1) μ' (phi c.n (Vc c.n D) .kd+Ssum c.n D,rk,f0+2*Fsum c.n D)∧c.IX μ' m₁ (t++ops):=by
 refine dR.aad G ha h hwg hmode hk (fun q _ e y=>⟨q,.kd y,hf q e⟩) id fun z=>?_;have le:=Vc_le c.n D;obtain⟨_,b,go,q,y⟩:=z w (.refl w);exact dR.bookC G ha h go (.refl _ _) hwg bk_dis (.anch y) (hmode.reopen trivial trivial rfl nofun) (.inl (by simp only[phi];omega))
end
end Go.Ren
