import Derived.Test.YtheibfffilomcabGreatDoorR4U
set_option linter.all false
namespace Go.Ren
variable {P:Program} {ρ:Nat→Nat}
theorem ze {V W:World} (h:WR ρ V W) (a:Addr) (what:String):Ky (V.noCell a what):=by
 unfold World.noCell;split
 ·rename_i c t hb;exact absurd hb (h.kg _ _ _)
 ·trivial
 ·trivial
theorem G9 {V W:World} (h:WR ρ V W) {a:Addr} {b:Bool} {v:Value} {l:List Addr} (hf:V.farLoad P a b= .ok (v,l)):
 W.farLoad P (bW ρ a) b= .ok (mv ρ v,l.map (bW ρ))∧∀x∈l,x.block<V.heap.size:=by
 unfold World.farLoad at hf ⊢;split at hf
 ·rename_i at_ u hb;have hW:=h.heap _ _ hb;simp only[lM]at hW;rw[show(bW ρ a).block=ρ a.block from rfl,hW];split at hf
  ·rename_i r hr;cases hf;obtain⟨h1,h2⟩:=Gg h hr;exact⟨by simp only[h1],fun x hx=>(h2 x hx).1▸(h2 x hx).2⟩
  ·cases hf
 ·cases hf
theorem Es {V W:World} (h:WR ρ V W) {a:Addr} {b:Bool} {e:Halt} (hf:V.farLoad P a b= .error e):Ky e:=by
 unfold World.farLoad at hf;split at hf
 ·split at hf
  ·cases hf
  ·cases hf;trivial
 ·cases hf;exact ze h _ _
theorem Cu {V W:World} (h:WR ρ V W) {a:Addr} {v:Value} {b:Bool} {e:Halt} (hf:V.farStore P a v b= .error e):Ky e:=by
 unfold World.farStore at hf;split at hf
 ·split at hf
  ·cases hf
  ·cases hf;trivial
 ·cases hf;exact ze h _ _
theorem Et (hi:∀a b,ρ a=ρ b→a=b) {V W V':World} (h:WR ρ V W) {a:Addr} {v:Value} {b:Bool} {l:List Addr} (hf:V.farStore P a v b= .ok (V',l)):
 ∃W',W.farStore P (bW ρ a) (mv ρ v) b= .ok (W',l.map (bW ρ))∧Out ρ V W V' W'∧∀x∈l,x.block<V'.heap.size:=by
 unfold World.farStore at hf ⊢;split at hf
 ·rename_i at_ u hb;have hW:=h.heap _ _ hb;simp only[lM]at hW;rw[show(bW ρ a).block=ρ a.block from rfl,hW];split at hf
  ·rename_i r hr;cases hf;obtain⟨c,e,f,h1,c',h2,rfl,h4,h5⟩:=Dx h hr;have ho:=CO hi h at_.block (.cells c' e f) (fun _ _ x=>by cases x);refine⟨_,by simp only[h4,lM],ho,fun x hx=>?_⟩;rw[h5 x hx];have:=(Array.getElem?_eq_some_iff.1 h1).1;simpa using this
  ·cases hf
 ·cases hf
theorem Dp (w:World):w.sys .env=(.strings w.os.env,w):=by unfold World.sys;simp only[Kernel.perform,Kernel.lengthOf,Kernel.named,Kernel.ofKernel,Kernel.stamps,Kernel.each,Kernel.env,pure,bind,Ask.bind];rfl
theorem SR.runT (hi:∀a b,ρ a=ρ b→a=b) {α β:Type} {Q:α→β→Prop} {s:Sem α} {s':Sem β} (h:SR P ρ Q s s'):∀(V W:World) (es es':Array Event),WR ρ V W→
 (∀i,V.heap.size+i<(world (s.runT P V es).1).heap.size→ρ (V.heap.size+i)=W.heap.size+i)→
 (∀i,V.drawn+i<(world (s.runT P V es).1).drawn→V.tape (V.drawn+i)=W.tape (W.drawn+i))→
 ¬GQ (s.runT P V es).1→Rn ρ Q V W es es' (s.runT P V es) (s'.runT P W es'):=by
 induction h with
 |pure h=>intro V W es es' hw _ _ _;exact .still hw rfl rfl h
 | @load m a k k' _ ih=>
   intro V W es es' hw hρ eY hb;simp only[Sem.runT]at hρ eY hb ⊢;have hc:=JS hw a;cases hv:V.cell? a with
   |some v=>
    rw[hv]at hc;simp only[hv,hc,Option.map_some]at hρ eY hb ⊢;have:=ih v V W (es.push ⟨.cell a,false,m== .atomic⟩) (es'.push ⟨.cell (bW ρ a),false,m== .atomic⟩) hw hρ eY hb;refine Rn.step (d0:=#[⟨.cell a,false,m== .atomic⟩]) (.refl hw) ?_ (by simpa[lK,iq]using this);intro e he;simp at he;subst he;refine .inl ?_;unfold World.cell? at hv;split at hv
    ·rename_i hb';exact(Array.getElem?_eq_some_iff.1 hb').1
    ·cases hv
   |none=>
    rw[hv]at hc;simp only[hv,hc,Option.map_none]at hρ eY hb ⊢;cases hf:V.farLoad P a (m== .atomic)with
    |error e=>simp only[hf]at hb;exact absurd (Es hw hf) hb
    |ok r=>
     obtain⟨v,l⟩:=r;obtain⟨h1,h2⟩:=G9 hw hf;simp only[hf,h1]at hρ eY hb ⊢;have:=ih v V W (es++l.toArray.map (⟨.cell ·,false,m== .atomic⟩)) (es'++(l.map (bW ρ)).toArray.map (⟨.cell ·,false,m== .atomic⟩)) hw hρ eY hb
     refine Rn.step (d0:=l.toArray.map (⟨.cell ·,false,m== .atomic⟩)) (.refl hw) ?_ (by
      have e:(l.map (bW ρ)).toArray.map (fun x=>(⟨.cell x,false,m== .atomic⟩:Event))=(l.toArray.map (fun x=>(⟨.cell x,false,m== .atomic⟩:Event))).map (lK ρ):=by simp[lK,iq,Function.comp_def]
      rw[←e];exact this)
     intro e he;obtain⟨x,hx,rfl⟩:=Array.mem_map.1 he;exact .inl (h2 x (by simpa using hx))
 | @store m a v k k' _ ih=>
   intro V W es es' hw hρ eY hb;cases ho:one v with
   |false=>rw[gJ ho]at hb;exact absurd trivial hb
   |true=>
    have ho':one (mv ρ v)=true:=by rw[Vl,ho]
    rw[jw ho]at hρ eY hb ⊢;rw[jw ho'];have hc:=JS hw a;cases hv:V.cell? a with
    |some x=>
     rw[hv]at hc;simp only[hv,hc,Option.map_some,Be hw]at hρ eY hb ⊢;cases hz:V.frozen? a with
     |true=>simp only[hz, ↓reduceIte]at hb;exact absurd trivial hb
     |false=>
      simp only[hz,Bool.false_eq_true, ↓reduceIte]at hρ eY hb ⊢;have oc:=EX hi hw a v;have:=ih (V.setCell a v) (W.setCell (bW ρ a) (mv ρ v)) (es.push ⟨.cell a,true,m== .atomic⟩) (es'.push ⟨.cell (bW ρ a),true,m== .atomic⟩) oc.wr
       (by rw[lX,lX];exact hρ) eY hb
      refine Rn.step (d0:=#[⟨.cell a,true,m== .atomic⟩]) oc ?_ (by simpa[lK,iq]using this);intro e he;simp at he;subst he;refine .inl ?_;unfold World.cell? at hv;split at hv
      ·rename_i hb';show a.block<_;rw[lX];exact(Array.getElem?_eq_some_iff.1 hb').1
      ·cases hv
    |none=>
     rw[hv]at hc;simp only[hv,hc,Option.map_none]at hρ eY hb ⊢;cases hf:V.farStore P a v (m== .atomic)with
     |error e=>simp only[hf]at hb;exact absurd (Cu hw hf) hb
     |ok r=>
      obtain⟨V1,l⟩:=r;obtain⟨W1,h1,oc,h2⟩:=Et hi hw hf;obtain⟨k1,k2⟩:=mJ hf;have os:=oc.size;have od:=oc.drawn;simp only[hf,h1]at hρ eY hb ⊢;have:=ih V1 W1 (es++l.toArray.map (⟨.cell ·,true,m== .atomic⟩)) (es'++(l.map (bW ρ)).toArray.map (⟨.cell ·,true,m== .atomic⟩)) oc.wr
       (by rw[k1,show W1.heap.size=W.heap.size by omega];exact hρ) (by rw[k2,show W1.drawn=W.drawn by omega,oc.tape,oc.Gh];exact eY) hb
      refine Rn.step (d0:=l.toArray.map (⟨.cell ·,true,m== .atomic⟩)) oc ?_ (by
       have e:(l.map (bW ρ)).toArray.map (fun x=>(⟨.cell x,true,m== .atomic⟩:Event))=(l.toArray.map (fun x=>(⟨.cell x,true,m== .atomic⟩:Event))).map (lK ρ):=by simp[lK,iq,Function.comp_def]
       rw[←e];exact this)
      intro e he;obtain⟨x,hx,rfl⟩:=Array.mem_map.1 he;exact .inl (h2 x (by simpa using hx))
 | @new o k k' hp _ ih=>
   intro V W es es' hw hρ eY hb;simp only[Sem.runT]at hρ eY hb ⊢;have hm:=Bt (P:=P) (k V.heap.size) {V with heap:=V.heap.push o} es;simp only[Array.size_push]at hm;have e0:ρ V.heap.size=W.heap.size:=by simpa using hρ 0 (by omega)
   have oc:=O8 hw hi o hp e0;rw[←e0];refine Rn.step (d0:=#[]) oc (by simp) ?_;simp only[Array.append_empty,Array.map_empty];refine ih V.heap.size _ _ es es' oc.wr (fun i hlt=>?_) eY hb;simp only[Array.size_push]at hlt ⊢;have:=hρ (i+1) (by omega);rw[show V.heap.size+1+i=V.heap.size+(i+1) by omega,this];omega
 | @shape r k k' _ ih=>intro V W es es' hw hρ eY hb;simp only[Sem.runT,Px hw]at hρ eY hb ⊢;exact ih _ V W es es' hw hρ eY hb
 | @freeze a n k k' _ ih=>
   intro V W es es' hw hρ eY hb;simp only[Sem.runT]at hρ eY hb ⊢;have oc:=Ih hi hw a n;refine Rn.step (d0:=#[]) oc (by simp) ?_;simp only[Array.append_empty,Array.map_empty];refine ih _ _ es es' oc.wr ?_ ?_ hb
   ·rw[(jC V a n).1,(jC W _ n).1];exact hρ
   ·rw[(jC V a n).2,(jC W _ n).2,oc.tape,oc.Gh];exact eY
 | @frozen a k k' _ ih=>intro V W es es' hw hρ eY hb;simp only[Sem.runT,Be hw]at hρ eY hb ⊢;exact ih _ V W es es' hw hρ eY hb
 | @getObj r k k' _ ih=>
   intro V W es es' hw hρ eY hb;simp only[Sem.runT,hw.eq]at hρ eY hb ⊢;cases ho:V.heap[r]? with
   |none=>simp only[ho]at hb;exact absurd trivial hb
   |some o=>
    simp only[ho,Option.map_some]at hρ eY hb ⊢;have hr:=(Array.getElem?_eq_some_iff.1 ho).1;have key:∀(c:Bool),(∀i,V.heap.size+i<(world ((k o).runT P V (es.push ⟨.obj r,false,c⟩)).1).heap.size→ρ (V.heap.size+i)=W.heap.size+i)→
     (∀i,V.drawn+i<(world ((k o).runT P V (es.push ⟨.obj r,false,c⟩)).1).drawn→V.tape (V.drawn+i)=W.tape (W.drawn+i))→¬GQ ((k o).runT P V (es.push ⟨.obj r,false,c⟩)).1→
     Rn ρ Q V W es es' ((k o).runT P V (es.push ⟨.obj r,false,c⟩)) ((k' (lM ρ o)).runT P W (es'.push ⟨.obj (ρ r),false,c⟩)):=by
     intro c h1 h2 h3;have:=ih o V W (es.push ⟨.obj r,false,c⟩) (es'.push ⟨.obj (ρ r),false,c⟩) hw h1 h2 h3;refine Rn.step (d0:=#[⟨.obj r,false,c⟩]) (.refl hw) ?_ (by simpa[lK,iq]using this);intro e he;simp at he;subst he;exact .inl hr
    cases o with
    |cells=>exact absurd trivial hb
    |_=>exact key _ hρ eY hb
 | @setObj r o k k' hp _ ih=>
   intro V W es es' hw hρ eY hb;simp only[Sem.runT,hw.eq]at hρ eY hb ⊢;have hch:(lM ρ o).isChan=o.isChan:=by cases o<;>rfl
   cases ho:V.heap[r]? with
   |none=>simp only[ho]at hb;exact absurd trivial hb
   |some oo=>
    simp only[ho,Option.map_some,hch]at hρ eY hb ⊢;have hr:=(Array.getElem?_eq_some_iff.1 ho).1;have oc:=CO hi hw r o hp;have key:(∀i,V.heap.size+i<(world (k.runT P {V with heap:=V.heap.setIfInBounds r o} (es.push ⟨.obj r,true,o.isChan⟩)).1).heap.size→ρ (V.heap.size+i)=W.heap.size+i)→
     (∀i,V.drawn+i<(world (k.runT P {V with heap:=V.heap.setIfInBounds r o} (es.push ⟨.obj r,true,o.isChan⟩)).1).drawn→V.tape (V.drawn+i)=W.tape (W.drawn+i))→¬GQ (k.runT P {V with heap:=V.heap.setIfInBounds r o} (es.push ⟨.obj r,true,o.isChan⟩)).1→
     Rn ρ Q V W es es' (k.runT P {V with heap:=V.heap.setIfInBounds r o} (es.push ⟨.obj r,true,o.isChan⟩)) (k'.runT P {W with heap:=W.heap.setIfInBounds (ρ r) (lM ρ o)} (es'.push ⟨.obj (ρ r),true,o.isChan⟩)):=by
     intro h1 h2 h3;have:=ih _ _ (es.push ⟨.obj r,true,o.isChan⟩) (es'.push ⟨.obj (ρ r),true,o.isChan⟩) oc.wr (by simpa using h1) h2 h3;refine Rn.step (d0:=#[⟨.obj r,true,o.isChan⟩]) oc ?_ (by simpa[lK,iq]using this);intro e he;simp at he;subst he;refine .inl ?_;show r<_;simpa using hr
    cases oo with
    |cells=>exact absurd trivial hb
    |_=>exact key hρ eY hb
 | @env k k' hp _ ih=>intro V W es es' hw hρ eY hb;have hV:=Dp V;have hW:=Dp W;simp only[Sem.runT,hV,hW,hw.os]at hρ eY hb ⊢;have:=ih (.strings V.os.env) V W (es.push ⟨.output,true,false⟩) (es'.push ⟨.output,true,false⟩) hw hρ eY hb;refine Rn.step (d0:=#[⟨.output,true,false⟩]) (.refl hw) ?_ (by simpa[lK,iq]using this);intro e he;simp at he;subst he;exact .inr ⟨rfl,hp _ _ _⟩
 | @choose q k k' _ ih=>
   intro V W es es' hw hρ eY hb;simp only[Sem.runT]at hρ eY hb ⊢;cases hq:q.forced with
   |true=>simp only[hq, ↓reduceIte]at hρ eY hb ⊢;exact ih _ V W es es' hw hρ eY hb
   |false=>
    simp only[hq,Bool.false_eq_true, ↓reduceIte]at hρ eY hb ⊢;have hm:=Bt (P:=P) (k (q.cut (V.tape V.drawn q))) {V with drawn:=V.drawn+1} es;have e0:V.tape V.drawn=W.tape W.drawn:=by simpa using eY 0 (by simp only at hm;omega)
    rw[←e0];have oc:Out ρ V W {V with drawn:=V.drawn+1} {W with drawn:=W.drawn+1}:=
     ⟨⟨hw.eq,hw.kg,hw.os⟩,rfl,by simp;omega,rfl,rfl,rfl,fun _ _ _=>rfl,Nat.le_refl _,by simp,rfl,fun x h1 h2=>by simp at h2;omega,rfl⟩
    refine Rn.step (d0:=#[]) oc (by simp) ?_;simp only[Array.append_empty,Array.map_empty];refine ih _ _ _ es es' oc.wr hρ (fun i hlt=>?_) hb;simp only at hlt ⊢;have:=eY (i+1) (by omega);rw[show V.drawn+1+i=V.drawn+(i+1) by omega,this,show W.drawn+1+i=W.drawn+(i+1) by omega]
 |program _ ih=>intro V W es es' hw hρ eY hb;simp only[Sem.runT]at hρ eY hb ⊢;exact ih V W es es' hw hρ eY hb
 | @mark m k k' hm _ ih=>intro V W es es' hw hρ eY hb;simp only[Sem.runT]at hρ eY hb ⊢;have:=ih V W (es.push ⟨.mark m,false,true⟩) (es'.push ⟨.mark (Wl ρ m),false,true⟩) hw hρ eY hb;refine Rn.step (d0:=#[⟨.mark m,false,true⟩]) (.refl hw) ?_ (by simpa[lK,iq]using this);intro e he;simp at he;subst he;exact .inl hm
 |halt hh=>intro V W es es' hw _ _ _;exact .still hw rfl rfl ⟨rfl,hh⟩
 |dead h=>intro V W es es' hw _ _ hb;exact absurd h hb
end Go.Ren
namespace Go.Ren
set_option linter.unusedSimpArgs false
set_option linter.unusedVariables false
structure JL (P:Program) (ρ:Nat→Nat):Prop where
 inj:∀a b,ρ a=ρ b→a=b
 zero:∀t i v,P.info? t=some i→i.zero=some v→mv ρ v=v
abbrev SV (P:Program) (ρ:Nat→Nat) (s s':Sem Value):Prop:=SR P ρ (fun v v'=>v'=mv ρ v) s s'
abbrev SE (P:Program) (ρ:Nat→Nat) {α:Type} (s s':Sem α):Prop:=SR P ρ Eq s s'
variable {P:Program} {ρ:Nat→Nat}
theorem SR.bnd {α β γ δ:Type} {Q:α→β→Prop} {T:γ→δ→Prop} {s:Sem α} {s':Sem β} {f:α→Sem γ} {f':β→Sem δ}
 (h:SR P ρ Q s s') (hf:∀a b,Q a b→SR P ρ T (f a) (f' b)):SR P ρ T (s>>= f) (s'>>= f'):=SR.bind h hf
theorem SR.az {α γ δ:Type} {T:γ→δ→Prop} {s s':Sem α} {f:α→Sem γ} {f':α→Sem δ}
 (h:SE P ρ s s') (hf:∀a,SR P ρ T (f a) (f' a)):SR P ρ T (s>>= f) (s'>>= f'):=SR.bind h fun a b e=>e▸hf a
theorem SR.kZ {γ δ:Type} {T:γ→δ→Prop} {s s':Sem Value} {f:Value→Sem γ} {f':Value→Sem δ}
 (h:SV P ρ s s') (hf:∀a,SR P ρ T (f a) (f' (mv ρ a))):SR P ρ T (s>>= f) (s'>>= f'):=SR.bind h fun a b e=>by rw[e];exact hf a
theorem af {α β:Type} {Q:α→β→Prop} {a:α} {b:β} (h:Q a b):SR P ρ Q (Pure.pure a:Sem α) (Pure.pure b:Sem β):=SR.pure h
theorem ae {α β:Type} {Q:α→β→Prop} {why:String} {s:Sem β}:SR P ρ Q (stuck why:Sem α) s:=.dead trivial
theorem fI {α β γ:Type} {Q:γ→β→Prop} {why:String} {f:α→Sem γ} {s:Sem β}:SR P ρ Q ((stuck why:Sem α)>>= f) s:=.dead trivial
theorem aB {α β:Type} {Q:α→β→Prop} {u:Unsupported} {s:Sem β} (h:∀g,u≠ .initOrder g):SR P ρ Q (unsupported u:Sem α) s:=.dead (by cases u<;>first|trivial|exact absurd rfl (h _))
theorem dO {α β γ:Type} {Q:γ→β→Prop} {u:Unsupported} {f:α→Sem γ} {s:Sem β} (h:∀g,u≠ .initOrder g):SR P ρ Q ((unsupported u:Sem α)>>= f) s:=.dead (by cases u<;>first|trivial|exact absurd rfl (h _))
theorem f_:SE P ρ program program:=.program (.pure rfl)
theorem eH (q:Question):SE P ρ (choose q) (choose q):=.choose fun _=>.pure rfl
theorem xx (t:TypeId):SR P ρ (fun i i'=>i'=i∧P.info? t=some i) (typeInfo t) (typeInfo t):=by
 refine SR.program ?_;show SR P ρ _ (Sem.bind (.pure P) _) (Sem.bind (.pure P) _);simp only[Sem.bind];split
 ·rename_i i h;exact .pure ⟨rfl,h⟩
 ·exact .dead trivial
theorem aF (t:TypeId):SE P ρ (underlying t) (underlying t):=by
 refine SR.program ?_;show SR P ρ _ (Sem.bind (.pure P) _) (Sem.bind (.pure P) _);simp only[Sem.bind];split
 ·exact .pure rfl
 ·exact .dead trivial
theorem dU (t:TypeId):SE P ρ (typeInfo t) (typeInfo t):=(xx t).mono fun _ _ h=>h.1.symm
theorem dm (t:TypeId):SE P ρ (sizeOf t) (sizeOf t):=SR.az (dU t) fun _=>af rfl
theorem Fy (t:TypeId):SE P ρ (isAgg t) (isAgg t):=by refine SR.az (aF t) fun d=>?_;cases d<;>exact af rfl
theorem vW (t:TypeId):SE P ρ (elemOf t) (elemOf t):=by refine SR.az (aF t) fun d=>?_;cases d<;>first|exact af rfl|exact ae
theorem qc (H:JL P ρ) (t:TypeId):SR P ρ (fun v v'=>v'=v∧mv ρ v=v) (zeroValue t) (zeroValue t):=by
 refine SR.bnd (xx t) fun i i' hi=>?_;obtain⟨rfl,hi⟩:=hi;split
 ·rename_i v hv;exact af ⟨rfl,H.zero _ _ _ hi hv⟩
 ·exact aB (by simp)
theorem jN (a:Addr) (n:Nat):(bW ρ a).add n=bW ρ (a.add n):=by unfold Addr.add;split<;>rfl
theorem yc (a:Addr) (m:Mode):SV P ρ (load a m) (load (bW ρ a) m):=.load fun _=>.pure rfl
theorem PM (a:Addr) (v:Value) (m:Mode):SE P ρ (store a v m) (store (bW ρ a) (mv ρ v) m):=.store (.pure rfl)
theorem wC (a:Addr):∀(n i:Nat) (acc:Array Value),SR P ρ (fun c c'=>c'=c.map (mv ρ)) (loadCellsFrom a i n acc) (loadCellsFrom (bW ρ a) i n (acc.map (mv ρ))):=by
 intro n;induction n with
 |zero=>intro i acc;exact af rfl
 |succ n ih=>
  intro i acc;refine SR.kZ ?_ fun v=>?_
  ·rw[jN];exact yc _ _
  ·have:=ih (i+1) (acc.push v);simpa using this
theorem lY (a:Addr) (n:Nat):SR P ρ (fun c c'=>c'=c.map (mv ρ)) (loadCells a n) (loadCells (bW ρ a) n):=by have:=wC (P:=P) (ρ:=ρ) a n 0 #[];simpa[loadCells]using this
theorem kJ (a:Addr):∀(vs:List Value) (i:Nat),SE P ρ (storeCells a vs i) (storeCells (bW ρ a) (vs.map (mv ρ)) i):=by
 intro vs;induction vs with
 |nil=>intro i;exact af rfl
 |cons v vs ih=>intro i;refine SR.az ?_ fun _=>ih _;rw[jN];exact PM _ _ _
theorem zH (t:TypeId) (a:Addr):SV P ρ (loadVar t a) (loadVar t (bW ρ a)):=by
 refine SR.az (Fy t) fun b=>?_;cases b with
 |true=>refine SR.az (dm t) fun n=>?_;refine SR.bnd (lY a n) fun c c' e=>?_;exact af (by rw[e];simp[mv])
 |false=>exact yc _ _
theorem iO (v:Value):(mv ρ v).cells=v.cells.map (mv ρ):=by cases v<;>simp[mv,Value.cells]
theorem FT (t:TypeId) (a:Addr) (v:Value):SE P ρ (storeVar t a v) (storeVar t (bW ρ a) (mv ρ v)):=by
 unfold storeVar;refine SR.az (dm t) fun n=>?_;rw[iO,Array.size_map];by_cases h:v.cells.size≠n
 ·simp only[h, ↓reduceIte,not_false_eq_true,ne_eq];exact fI
 ·simp only[h, ↓reduceIte,Array.toList_map,ne_eq,not_true_eq_false];exact kJ _ _ _
theorem o8 (o:Obj) (hp:∀c t,o≠ .pending c t):SR P ρ (fun r r'=>r'=ρ r) (newObj o) (newObj (lM ρ o)):=.new hp fun _=>.pure rfl
theorem mq (t:TypeId) (c:Array Value):SR P ρ (fun a a'=>a'=bW ρ a) (newRow t c) (newRow t (c.map (mv ρ))):=by refine SR.bnd (o8 (.cells c t) (by simp)) fun r r' e=>?_;exact af (by rw[e];rfl)
theorem wD (t:TypeId) (v:Value):SR P ρ (fun a a'=>a'=bW ρ a) (newVar t v) (newVar t (mv ρ v)):=by unfold newVar;rw[iO];exact mq t _
theorem jS (t:TypeId) (cs:Array Value) (off:Nat):SV P ρ (part t cs off) (part t (cs.map (mv ρ)) off):=by
 refine SR.az (Fy t) fun b=>?_;cases b with
 |true=>refine SR.az (dm t) fun n=>?_;exact af (by simp[mv])
 |false=>
  simp only[Bool.false_eq_true, ↓reduceIte,Array.getElem?_map];cases cs[off]? with
  |none=>exact ae
  |some v=>exact af rfl
theorem tT {α β:Type} {Q:α→β→Prop} (v:Value):SR P ρ Q (goPanic v:Sem α) (goPanic (mv ρ v):Sem β):=.halt trivial
theorem xA {α β:Type} {Q:α→β→Prop} (v:Value) (h:mv ρ v=v):SR P ρ Q (goPanic v:Sem α) (goPanic v:Sem β):=by have:=tT (P:=P) (ρ:=ρ) (Q:=Q) v;rwa[h]at this
def X9:RuntimeError→Bool
 | .bounds .. =>true
 | .error _=>true
 | .plain _=>true
 | .nilDeref=>true
 |_=>false
theorem b_ {α β:Type} {Q:α→β→Prop} (e:RuntimeError) (h:X9 e=true):SR P ρ Q (runtimePanic e:Sem α) (runtimePanic e:Sem β):=by
 refine SR.az f_ fun p=>?_;cases e<;>first|cases h|skip
 all_goals exact xA _ (by simp[mv,strVal])
theorem iV {α β:Type} {Q:α→β→Prop} (k:IntKind) (x y:Int) (c:BoundsCode):SR P ρ Q (boundsPanic k x y c:Sem α) (boundsPanic k x y c:Sem β):=by
 unfold boundsPanic;have key:∀b,SR P ρ Q (runtimePanic (.bounds (IntKind.i64.wrap x) y b c):Sem α) (runtimePanic (.bounds (IntKind.i64.wrap x) y b c):Sem β):=fun b=>b_ _ rfl;split
 ·refine SR.az (SR.az (eH _) fun n=>af rfl) fun n=>key _
 ·exact SR.az (af rfl) fun n=>key _
theorem p_ (v:Value):SE P ρ (asIntOf v) (asIntOf (mv ρ v)):=by
 cases v<;>simp only[mv,asIntOf]<;>first|exact af rfl|exact ae|skip
 rename_i a;cases a<;>first|exact ae|exact aB (by simp)
theorem rA (v:Value):SE P ρ (asInt v) (asInt (mv ρ v)):=SR.az (p_ v) fun _=>af rfl
theorem rU (v:Value):SE P ρ (asBool v) (asBool (mv ρ v)):=by cases v<;>simp only[mv,asBool]<;>first|exact af rfl|exact ae
theorem PL (v:Value):SR P ρ (fun c c'=>c'=c.map (mv ρ)) (asAgg v) (asAgg (mv ρ v)):=by cases v<;>simp only[mv,asAgg]<;>first|exact af rfl|exact ae
theorem BI (v:Value):SR P ρ (fun a a'=>a'=bW ρ a) (asAddr v) (asAddr (mv ρ v)):=by
 cases v<;>simp only[mv,asAddr]<;>first|exact ae|skip
 rename_i a;cases a
 ·exact b_ _ rfl
 ·exact af rfl
theorem kW (v:Value):SR P ρ (fun a a'=>a'=bW ρ a) (Instr.sureAddr v) (Instr.sureAddr (mv ρ v)):=by
 cases v<;>simp only[mv,Instr.sureAddr]<;>first|exact ae|skip
 rename_i a;cases a
 ·exact ae
 ·exact af rfl
end Go.Ren
namespace Go.Ren
set_option linter.unusedSimpArgs false
set_option linter.unusedVariables false
variable {P:Program} {ρ:Nat→Nat}
theorem fT (r:Nat):SE P ρ (shape r) (shape (ρ r)):=.shape fun _=>.pure rfl
theorem oV (a:Addr):SE P ρ (frozen a) (frozen (bW ρ a)):=.frozen fun _=>.pure rfl
theorem Bz (a:Addr) (n:Nat):SE P ρ (freeze a n) (freeze (bW ρ a) n):=.freeze (.pure rfl)
theorem mh (r:Nat):SR P ρ (fun o o'=>o'=lM ρ o) (getObj r) (getObj (ρ r)):=.getObj fun _=>.pure rfl
theorem C8 (m:Mark) (h:xn m=true):SE P ρ (mark m) (mark (Wl ρ m)):=.mark h (.pure rfl)
theorem zz (n:Nat):SE P ρ (askRoom n) (askRoom n):=by
 unfold askRoom;split
 ·exact C8 .noRoom rfl
 ·exact af rfl
theorem rW (r:Nat):SR P ρ (fun x y=>y=x.map fun z=>(bW ρ z.1,z.2)) (viewAt r) (viewAt (ρ r)):=by
 unfold viewAt;refine SR.az (fT r) fun s=>?_;cases s with
 |some x=>exact af rfl
 |none=>refine SR.bnd (mh r) fun o o' e=>?_;subst e;cases o<;>exact af rfl
theorem xB (r:Nat):SR P ρ (fun x y=>y=x.map fun z=>(bW ρ z.1,z.2)) (numberAt r) (numberAt (ρ r)):=by
 unfold numberAt;refine SR.az (fT r) fun s=>?_;cases s with
 |some x=>exact af rfl
 |none=>refine SR.bnd (mh r) fun o o' e=>?_;subst e;cases o<;>exact af rfl
theorem Iw (r:Nat):SE P ρ (cellsIn r) (cellsIn (ρ r)):=by
 unfold cellsIn;refine SR.az (fT r) fun s=>?_;cases s with
 |some x=>exact af rfl
 |none=>refine SR.bnd (mh r) fun o o' e=>?_;subst e;cases o<;>first|exact af rfl|exact af (by simp)
theorem bz (a:Addr):SR P ρ (fun x y=>y=(bW ρ x.1,x.2)) (behindNumber a) (behindNumber (bW ρ a)):=by unfold behindNumber;refine SR.bnd (xB a.block) fun x y e=>?_;subst e;cases x<;>exact af rfl
theorem vX (a:Addr):SE P ρ (noView a) (noView (bW ρ a)):=by
 unfold noView;refine SR.bnd (rW a.block) fun x y e=>?_;subst e;cases x with
 |none=>exact af rfl
 |some x=>exact aB (by simp)
theorem oW (a:Addr):SE P ρ (markStringish a) (markStringish (bW ρ a)):=by
 unfold markStringish;refine SR.az (fT a.block) fun s=>?_;cases s with
 |none=>exact af rfl
 |some x=>exact Bz {block:=a.block,off:=x.2} 1
theorem uX (a:Addr):SE P ρ (stringish a) (stringish (bW ρ a)):=by
 unfold stringish;refine SR.az (oV a) fun b=>?_;cases b with
 |true=>exact af rfl
 |false=>
  refine SR.az (fT a.block) fun s=>?_;cases s with
  |none=>exact af rfl
  |some x=>exact oV {block:=a.block,off:=x.2}
theorem FC (a b:Addr):SE P ρ (mayBeOne a b) (mayBeOne (bW ρ a) (bW ρ b)):=by unfold mayBeOne;refine SR.az (uX a) fun x=>?_;refine SR.az (uX b) fun y=>?_;refine SR.az (SR.az (fT a.block) fun _=>af rfl) fun z=>?_;refine SR.az (SR.az (fT b.block) fun _=>af rfl) fun z'=>?_;exact af rfl
theorem yG (hi:∀a b,ρ a=ρ b→a=b) (x y:Nat):(ρ x==ρ y)=(x==y):=by rw[Bool.eq_iff_iff,beq_iff_eq,beq_iff_eq];exact⟨hi _ _,fun e=>e▸rfl⟩
theorem Rs (hi:∀a b,ρ a=ρ b→a=b) {a b:Addr} (h:bW ρ a=bW ρ b):a=b:=by obtain⟨a1,a2,a3⟩:=a;obtain⟨b1,b2,b3⟩:=b;simp only[bW,Addr.mk.injEq]at h ⊢;exact⟨hi _ _ h.1,h.2⟩
theorem qG (hi:∀a b,ρ a=ρ b→a=b) (a b:Addr):(bW ρ a==bW ρ b)=(a==b):=by rw[Bool.eq_iff_iff,beq_iff_eq,beq_iff_eq];exact⟨Rs hi,fun e=>e▸rfl⟩
theorem xw (H:JL P ρ) (a b:Addr):SE P ρ (sameAddr a b) (sameAddr (bW ρ a) (bW ρ b)):=by
 unfold sameAddr;rw[show(bW ρ a).block=ρ a.block from rfl,show(bW ρ b).block=ρ b.block from rfl,yG H.inj,qG H.inj];split
 ·exact af rfl
 ·refine SR.az (oV a) fun x=>?_;refine SR.az (oV b) fun y=>?_
  have rest:SE P ρ (do
   noView a
   noView b
   if ←mayBeOne a b then return (←choose (.extern "sameAddr.stringBytes" 2))==1
   Pure.pure false) (do
   noView (bW ρ a)
   noView (bW ρ b)
   if ←mayBeOne (bW ρ a) (bW ρ b)then return (←choose (.extern "sameAddr.stringBytes" 2))==1
   Pure.pure false):=by
   refine SR.az (vX a) fun _=>SR.az (vX b) fun _=>SR.az (FC a b) fun z=>?_;cases z with
   |true=>exact SR.az (eH _) fun n=>af rfl
   |false=>exact af rfl
  cases hxy:(x&&y)with
  |true=>simp only[↓reduceIte];exact dO (by simp)
  |false=>exact rest
theorem zB (H:JL P ρ) (a b:Option Addr):SE P ρ (samePointer a b) (samePointer (a.map (bW ρ)) (b.map (bW ρ))):=by cases a<;>cases b<;>first|exact af rfl|exact xw H _ _
theorem ku (a:Addr):SE P ρ (byteOf a) (byteOf (bW ρ a)):=by
 unfold byteOf;rw[show(bW ρ a).spot=a.spot from rfl,show(bW ρ a).off=a.off from rfl,show(bW ρ a).block=ρ a.block from rfl];cases a.spot with
 |some s=>exact af rfl
 |none=>
  refine SR.az f_ fun p=>SR.az (vX a) fun _=>SR.az (fT a.block) fun s=>?_;cases s with
  |none=>exact ae
  |some x=>
   dsimp only;split
   ·exact af rfl
   ·split
    ·exact af rfl
    ·exact ae
theorem Mq (a:Addr) (c b:Nat):SR P ρ (fun x y=>y=bW ρ x) (partAt a c b) (partAt (bW ρ a) c b):=by
 unfold partAt;refine SR.az (ku a) fun x=>?_;refine SR.az (ku {block:=a.block,off:=a.off+c}) fun y=>?_;split
 ·exact af rfl
 ·exact af rfl
theorem Ag (a:Addr) (f:Field):SR P ρ (fun x y=>y=bW ρ x) (fieldPlace a f) (fieldPlace (bW ρ a) f):=by
 unfold fieldPlace;refine SR.az (dm f.type) fun n=>?_;split
 ·exact Mq _ _ _
 ·exact af (by rw[jN])
theorem rC (a:Addr) (u:TypeId) (n:Nat):SE P ρ (variablesAt a u n) (variablesAt (bW ρ a) u n):=by unfold variablesAt;refine SR.az f_ fun p=>SR.az (fT a.block) fun s=>?_;cases s<;>exact af rfl
theorem CZ:∀(n:Nat) (a:Addr) (acc:ByteArray),SE P ρ (loadBytes a acc n) (loadBytes (bW ρ a) acc n):=by
 intro n;induction n with
 |zero=>intro a acc;exact af rfl
 |succ n ih=>
  intro a acc;refine SR.kZ (yc a _) fun v=>?_;cases v<;>simp only[mv]<;>first|exact ae|skip
  rename_i k b;cases k<;>first|exact ae|skip
  rw[jN];exact ih _ _
end Go.Ren
