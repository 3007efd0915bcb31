import Derived.Test.YtheibfffilomcabGreatDoorR4U
import Derived.Test.YtheibfffilomcabGreatDoorR27U
set_option linter.all false
namespace Go.Ren
set_option linter.unusedSimpArgs false
set_option linter.unusedVariables false
set_option linter.unusedSectionVars false
variable {P:Program} {fs:FuncId→Bool}
inductive ow (P:Program) (main:Bool) (L:Nat) (Stop:(Nat→Prop)→Goroutine→World→Prop):(Nat→Prop)→Goroutine→World→Prop
 |stop {S:Nat→Prop} {g:Goroutine} {w:World}:(∀w₁,um L S w w₁→Stop S g w₁)→ow P main L Stop S g w
 |step {S:Nat→Prop} {g:Goroutine} {w:World}:g.status= .running→(∀w₁,um L S w w₁→∃g' w' es,stepG P main g w₁= .go g' w' es∧Wp L S w₁ w' es)→
   (∀w₁ g' w' es,um L S w w₁→stepG P main g w₁= .go g' w' es→ow P main L Stop (fun b=>S b∨(w₁.heap.size≤b∧b<w'.heap.size)) g' w')→ow P main L Stop S g w
section
variable {main:Bool} {L:Nat} {Stop Stop':(Nat→Prop)→Goroutine→World→Prop} {S:Nat→Prop} {g:Goroutine} {w w₁:World}
theorem ow.rely (h:ow P main L Stop S g w) (r:um L S w w₁):ow P main L Stop S g w₁:=by
 cases h with
 |stop h=>exact .stop fun w₂ r₂=>h w₂ (r.trans r₂)
 |step hs h1 h2=>exact .step hs (fun w₂ r₂=>h1 w₂ (r.trans r₂)) fun w₂ g' w' es r₂=>h2 w₂ g' w' es (r.trans r₂)
theorem ow.bind (h:ow P main L Stop S g w) (hs:∀S g w,Stop S g w→ow P main L Stop' S g w):ow P main L Stop' S g w:=by
 induction h with
 |stop h=>exact hs _ _ _ (h _ (.refl _))
 |step hr h1 _ ih=>exact .step hr h1 ih
end
def KA (P:Program) (Post:Value→World→Prop) (fr:Frame) (V:World):Prop:=
 fr.mode= .returning∧fr.defers=[]∧fr.kind= .normal∧∃fn v,P.funcs[fr.fn]? =some fn∧results fn fr.tmps= .pure v∧Post v V
def Wm (L n0:Nat) (π0:Nat→Nat) (Post:Value→World→Prop) (c:Frame) (cs:List Frame) (S:Nat→Prop) (g:Goroutine) (w:World):Prop:=
 ∃π V v,S=own L π V∧HR L π V w∧(n0≤V.heap.size∧∀b,b<n0→π b=π0 b)∧Post v V∧∀ρ,Ext π V w ρ→g=cz (c.finish (mv ρ v)) cs .running
theorem Out.still {ρ:Nat→Nat} {V w w':World} (hi:∀a b,ρ a=ρ b→a=b) (hw:WR ρ V w) (o:Out ρ V w V w'):w'=w:=by
 have a1:=o.tape;have a2:=o.os;have a3:=o.output;have a4:=o.drawn;have a5:=o.size;have hh:w'.heap=w.heap:=by
  apply Array.ext_getElem?;intro b;rcases Nat.lt_or_ge b w.heap.size with hb|hb
  ·by_cases h:∃x,x<V.heap.size∧ρ x=b
   ·obtain⟨x,_,rfl⟩:=h;rw[o.wr.eq,hw.eq]
   ·exact o.frame b hb fun x hx e=>h ⟨x,hx,e⟩
  ·rw[Array.getElem?_eq_none hb,Array.getElem?_eq_none (by omega)]
 obtain⟨wh,wt,wd,wo,wu⟩:=w';obtain⟨wh2,wt2,wd2,wo2,wu2⟩:=w;simp only at*;have:wd=wd2:=by omega
 subst hh a1 a2 a3 this;rfl
theorem yQ {L:Nat} (A:OkA P fs L) {main:Bool} {Post:Value→World→Prop} {π:Nat→Nat} {V w:World} {fr c:Frame} {cs:List Frame} {ρ:Nat→Nat} (hr:HR L π V w) (e:Ext π V w ρ)
 (hF:KA P Post fr (on V w.tape w.drawn)):∃v,Post v (on V w.tape w.drawn)∧stepG P main (cz (dL ρ fr) (c::cs) .running) w= .go (cz (c.finish (mv ρ v)) cs .running) w #[]∧
   ∃fn,P.funcs[fr.fn]? =some fn∧results fn fr.tmps= .pure v:=by
 obtain⟨h1,h2,h3,fn,v,h4,h5,h6⟩:=hF;refine⟨v,h6,?_,fn,h4,h5⟩;have hw:=e.wr hr w.tape w.drawn;have run:=(zJ (P:=P) (ρ:=ρ) fn fr.tmps).runT e.inj (on V w.tape w.drawn) w #[] #[] hw;rw[show(results fn fr.tmps).runT P (on V w.tape w.drawn) #[]=(.ok v (on V w.tape w.drawn),#[]) by rw[h5];rfl]at run;obtain⟨⟨d,e1,e2,_⟩,res,o⟩:=run (fun i hi=>absurd hi (by simp[world])) (fun i hi=>absurd hi (by simp[world])) (fun x=>x);rcases hr':(results fn (fr.tmps.map (mv ρ))).runT P w #[]with⟨r',es'⟩;rw[hr']at e2 res o;simp only[Array.empty_append]at e1 e2;have:es'= #[]:=by rw[e2, ←e1];simp
 subst this;cases r' with
 |halt h w'=>exact res.elim
 |ok v' w'=>have hv:v'=mv ρ v:=res;have hw':w'=w:=Out.still e.inj hw o;subst hv hw';obtain⟨fn',tmps,todo,defers,mode,kind,round⟩:=fr;simp only at h1 h2 h3 h4 hr';subst h1 h2 h3;simp only[stepG,cz,dL,gZ,List.map_nil,unwind,h4];rw[hr'];rfl
theorem lift {L n0:Nat} {π0:Nat→Nat} (A:OkA P fs L) {main:Bool} {Post:Value→World→Prop} (hP:∀v V τ d,Post v V→Post v (on V τ d)) {c:Frame} {cs:List Frame} {fr:Frame} {l:List Frame} {V:World} (h:LK P (KA P Post) (Calm L) fr l V):
 dZ fs fr→(∀x∈l,dZ fs x)→∀π w g,HR L π V w→(n0≤V.heap.size∧∀b,b<n0→π b=π0 b)→(∀ρ,Ext π V w ρ→g=cz (dL ρ fr) (l.map (dL ρ)++c::cs) .running)→ow P main L (Wm L n0 π0 Post c cs) (own L π V) g w:=by
 induction h with
 | @fin fr V hF=>
   intro hfr _ π w g hr hag hg;have e0:=iY hr;have UN:g.status= .running:=by rw[hg _ e0];rfl
   have hx:∀w₁,um L (own L π V) w w₁→∀ρ,Ext π V w₁ ρ→g=cz (dL ρ fr) (c::cs) .running:=fun w₁ r ρ e=>by have:=hg ρ ⟨e.inj,e.old,fun b hb=>Nat.le_trans r.size (e.new b hb)⟩;simpa using this
   refine .step UN (fun w₁ r=>?_) fun w₁ g' w' es r hs=>?_
   ·have hr1:=hr.rely r;have e1:=iY hr1;obtain⟨v,_,hst,_⟩:=yQ (c:=c) (cs:=cs) (main:=main) A hr1 e1 (hF w₁.tape w₁.drawn);rw[←hx w₁ r _ e1]at hst;exact⟨_,_,_,hst,⟨fun _ _ _=>rfl,Nat.le_refl _,rfl,rfl,rfl,fun e he=>by simp at he⟩⟩
   ·have hr1:=hr.rely r;have e1:=iY hr1;obtain⟨v,hv,hst,fn,hfn,hres⟩:=yQ (c:=c) (cs:=cs) (main:=main) A hr1 e1 (hF w₁.tape w₁.drawn);rw[←hx w₁ r _ e1,hs]at hst;simp only[GStep.go.injEq]at hst;obtain⟨rfl,rfl,_⟩:=hst;have hS:(fun b=>own L π V b∨(w'.heap.size≤b∧b<w'.heap.size))=own L π V:=by
     funext b;apply propext;constructor
     ·rintro(h|h)
      ·exact h
      ·omega
     ·exact .inl
    rw[hS];refine .stop fun w₂ r₂=>?_;have hr2:=hr1.rely r₂;refine⟨π,V,v,rfl,hr2,hag,?_,fun ρ e=>?_⟩
    ·have:=hP v _ V.tape V.drawn hv;exact this
    ·have e':Ext π V w' ρ:=⟨e.inj,e.old,fun b hb=>Nat.le_trans r₂.size (e.new b hb)⟩;obtain⟨v2,_,UX,fn2,OC,hres2⟩:=yQ (c:=c) (cs:=cs) (main:=main) A hr1 e' (hF w'.tape w'.drawn);rw[hfn]at OC;cases OC;rw[hres]at hres2;simp only[Sem.pure.injEq]at hres2;obtain rfl:=hres2;rw[←hx w' r ρ e',hs]at UX;simp only[GStep.go.injEq]at UX;exact UX.1
 | @step fr l V hex hst hnx ih=>
   intro hfr hl π w g hr hag hg;have e0:=iY hr;have UN:g.status= .running:=by rw[hg _ e0];rfl
   have hx:∀w₁,um L (own L π V) w w₁→∀ρ,Ext π V w₁ ρ→g=cz (dL ρ fr) (l.map (dL ρ)++c::cs) .running:=fun w₁ r ρ e=>
    hg ρ ⟨e.inj,e.old,fun b hb=>Nat.le_trans r.size (e.new b hb)⟩
   refine .step UN (fun w₁ r=>?_) fun w₁ g' w' es r hs=>?_
   ·obtain⟨f',l',V',es,hs,hK⟩:=hst w₁.tape w₁.drawn;obtain⟨g',w',es',k1,k2,_⟩:=Bl (main:=main) A (hr.rely r) (hx w₁ r) hfr hl hex hs hK;exact⟨g',w',es',k1,k2⟩
   ·obtain⟨f',l',V',es2,hs2,hK⟩:=hst w₁.tape w₁.drawn;obtain⟨g2,w2,es',k1,k2,k3,k4,k5,k6,k7,k8⟩:=Bl (main:=main) A (hr.rely r) (hx w₁ r) hfr hl hex hs2 hK;rw[hs]at k1;simp only[GStep.go.injEq]at k1;obtain⟨rfl,rfl,rfl⟩:=k1;have hag':n0≤V'.heap.size∧∀b,b<n0→canon π V w₁ b=π0 b:=⟨Nat.le_trans hag.1 k8,fun b hb=>by rw[(iY (hr.rely r)).old b (by have:=hag.1;omega)];exact hag.2 b hb⟩;have:=ih w₁.tape w₁.drawn f' l' V' es2 hs2 k5 k6 _ w' g' k3 hag' k4;have hS:own L (canon π V w₁) V'=(fun b=>own L π V b∨(w₁.heap.size≤b∧b<w'.heap.size)):=by funext b;exact propext (k7 b)
    rw[hS]at this;exact this
end Go.Ren
namespace Go.Ren
set_option linter.unusedSimpArgs false
set_option linter.unusedVariables false
set_option linter.unusedSectionVars false
variable {P:Program} {τ:Nat→Nat}
structure Clean (τ:Nat→Nat) (V:World):Prop where
 obj:∀(b:Nat) (o:Obj),V.heap[b]? =some o→lM τ o=o
 new:∀b,V.heap.size≤b→τ b=b
theorem oN {a:Addr} (h:bW τ a=a):τ a.block=a.block:=congrArg Addr.block h
theorem rV {c c':Array Value} {t t':TypeId} {f f':Nat × Nat}:(Obj.cells c t f= .cells c' t' f')↔c=c'∧t=t'∧f=f':=by simp
theorem Clean.set {V:World} (h:Clean τ V) (b:Nat) (o:Obj) (ho:lM τ o=o):Clean τ {V with heap:=V.heap.setIfInBounds b o}:=by
 refine⟨fun x y hx=>?_,fun x hx=>h.new x (by simpa using hx)⟩;by_cases e:x=b
 ·subst e;simp only[Array.getElem?_setIfInBounds_self]at hx;split at hx
  ·cases hx;exact ho
  ·cases hx
 ·simp only[Array.getElem?_setIfInBounds_ne (fun e'=>e e'.symm)]at hx;exact h.obj x y hx
theorem Clean.modify {V:World} (h:Clean τ V) (b:Nat) (f:Obj→Obj) (hf:∀o,lM τ o=o→lM τ (f o)=f o):Clean τ {V with heap:=V.heap.modify b f}:=by
 rw[modify_eq];cases hb:V.heap[b]? with
 |none=>exact h
 |some o=>exact h.set b (f o) (hf o (h.obj b o hb))
theorem Clean.setCell {V:World} (h:Clean τ V) (a:Addr) (v:Value) (hv:mv τ v=v):Clean τ (V.setCell a v):=by
 refine h.modify _ _ fun o ho=>?_;cases o<;>try exact ho;simp only[lM,rV,and_true]at ho ⊢;split
 ·exact ho
 ·simp[ho,hv]
theorem Clean.freeze {V:World} (h:Clean τ V) (a:Addr) (n:Nat):Clean τ (V.freeze a n):=by
 unfold World.freeze;split
 ·exact h
 ·refine h.modify _ _ fun o ho=>?_;cases o<;>try exact ho;simp only[lM,rV,and_true]at ho ⊢;exact ho
theorem Clean.push {V:World} (h:Clean τ V) (o:Obj) (ho:lM τ o=o):Clean τ {V with heap:=V.heap.push o}:=by
 refine⟨fun x y hx=>?_,fun x hx=>h.new x (by simp only[Array.size_push]at hx;omega)⟩;simp only[Array.getElem?_push]at hx;split at hx
 ·cases hx;exact ho
 ·exact h.obj x y hx
theorem Clean.cell {V:World} (h:Clean τ V) {a:Addr} {v:Value} (hv:V.cell? a=some v):mv τ v=v:=by
 unfold World.cell? at hv;split at hv
 ·rename_i c t f hb;have:=h.obj _ _ hb;simp only[lM,rV,and_true]at this;split at hv
  ·cases hv
  ·have e:(c.map (mv τ))[a.off]? =some (mv τ v):=by simp[hv]
   rw[this,hv]at e;simpa using e.symm
 ·cases hv
theorem Ae (V:World) (a:Addr) (v:Value) (b:Nat) (h:a.block≠b):(V.setCell a v).heap[b]? =V.heap[b]? :=by simp[World.setCell,Array.getElem?_modify,h]
theorem Cw (V:World) (a:Addr) (n:Nat) (b:Nat) (h:a.block≠b):(V.freeze a n).heap[b]? =V.heap[b]? :=by
 unfold World.freeze;split
 ·rfl
 ·simp[Array.getElem?_modify,h]
structure GK (τ:Nat→Nat) (V V':World) (d:Array Event):Prop where
 clean:Clean τ V'
 still:∀(b:Nat),τ b≠b→V'.heap[b]? =V.heap[b]?
 evs:∀e∈d,iq τ e.loc=e.loc
theorem GK.refl {V:World} (h:Clean τ V):GK τ V V #[]:=⟨h,fun _ _=>rfl,by simp⟩
theorem GK.cons {V V1 V':World} {d0 d:Array Event} (h1:∀b:Nat,τ b≠b→V1.heap[b]? =V.heap[b]?) (h2:∀e∈d0,iq τ e.loc=e.loc) (h:GK τ V1 V' d):GK τ V V' (d0++d):=
 ⟨h.clean,fun b hb=>(h.still b hb).trans (h1 b hb),fun e he=>by
   rcases Array.mem_append.1 he with he|he
   ·exact h2 e he
   ·exact h.evs e he⟩
theorem BA {V:World} {at_ k:Addr} {u:TypeId} {atomic:Bool} {c:Array Value} {e:TypeId} {f:Nat × Nat} {first:Nat} {like:Value} {cells:List (Nat × Nat × List UInt8)}
 (h:V.seen P at_ u k atomic= .ok (c,e,f,first,like,cells)):mv τ like=like∧V.heap[at_.block]? =some (.cells c e f):=by
 obtain⟨ab,ao,as⟩:=at_;obtain⟨kb,ko,ks⟩:=k;unfold World.seen at h;simp only[throwThe,MonadExceptOf.throw,MonadExcept.throw,bind,Except.bind,pure,Except.pure]at h;rcases Bool.eq_false_or_eq_true (ks.isSome||as.isSome)with hsp|hsp
 ·simp only[hsp, ↓reduceIte]at h;cases h
 simp only[hsp,Bool.false_eq_true, ↓reduceIte]at h;split at h
 rotate_left
 ·cases h
 rename_i l hl;have hlm:=uM (ρ:=τ) _ _ _ _ hl;split at h
 rotate_left
 ·cases h
 split at h
 rotate_left
 ·cases h
 split at h
 rotate_left
 ·cases h
 rename_i c0 e0 f0 hb;split at h
 ·cases h
 split at h
 rotate_left
 ·cases h
 split at h
 ·cases h
 rename_i cl hcl;have fin:∀{x:Nat},(Except.ok (c0,e0,f0,x,l,cl):Except String _)= .ok (c,e,f,first,like,cells)→mv τ like=like∧V.heap[ab]? =some (.cells c e f):=by intro x hx;simp only[Except.ok.injEq,Prod.mk.injEq]at hx;obtain⟨rfl,rfl,rfl,rfl,rfl,rfl⟩:=hx;exact⟨hlm,hb⟩
 split at h
 ·split at h
  ·split at h
   ·cases h
   ·exact fin h
  ·cases h
 ·exact fin h
theorem rJ {V:World} {at_ k:Addr} {u:TypeId} {atomic:Bool} {v:Value} {l:List Addr} (h:V.viewLoad P at_ u k atomic= .ok (v,l)):mv τ v=v∧∀a∈l,a.block=at_.block:=by
 unfold World.viewLoad at h;cases hs:V.seen P at_ u k atomic with
 |error e=>simp[hs,bind,Except.bind]at h
 |ok r=>
  obtain⟨c,e,f,first,like,cells⟩:=r;obtain⟨h2,h3⟩:=BA (τ:=τ) hs;simp only[hs,throwThe,MonadExceptOf.throw,MonadExcept.throw,bind,Except.bind,pure,Except.pure]at h;split at h
  rotate_left
  ·cases h
  rename_i v0 hv;simp only[Except.ok.injEq,Prod.mk.injEq]at h;obtain⟨rfl,rfl⟩:=h;refine⟨?_,fun a ha=>?_⟩
  ·have:=tK (ρ:=τ) like;rw[h2]at this;have:=this _▸hv;rw[hv]at this;simpa using this
  ·obtain⟨x,_,rfl⟩:=List.mem_map.1 ha;rfl
theorem xW {V V':World} (hc:Clean τ V) {at_ k:Addr} {u:TypeId} {atomic:Bool} {v:Value} {l:List Addr} (h:V.viewStore P at_ u k v atomic= .ok (V',l)):
 ∃o,lM τ o=o∧V'= {V with heap:=V.heap.setIfInBounds at_.block o}∧∀a∈l,a.block=at_.block:=by
 unfold World.viewStore at h;simp only[throwThe,MonadExceptOf.throw,MonadExcept.throw,bind,Except.bind,pure,Except.pure]at h;split at h
 ·cases h
 split at h
 ·cases h
 rename_i r hs;obtain⟨c,e,f,first,like,cells⟩:=r;obtain⟨_,h3⟩:=BA (τ:=τ) hs;have hcc:=hc.obj _ _ h3;simp only[lM,rV,and_true]at hcc;split at h
 rotate_left
 ·cases h
 rename_i bytes hb;split at h
 ·cases h
 split at h
 ·cases h
 rename_i c' hc';have key:=uC (ρ:=τ) (first:=first) (frozen:=f) (bytes:=bytes) cells c c';simp only[throwThe,MonadExceptOf.throw,MonadExcept.throw,bind,Except.bind,pure,Except.pure]at key;obtain⟨k1,_⟩:=key hc';rw[hcc]at k1;have e1:=hc'.symm.trans k1;simp only[Except.ok.injEq]at e1;simp only[Except.ok.injEq,Prod.mk.injEq]at h;obtain⟨rfl,rfl⟩:=h;refine⟨.cells c' e f,by simp only[lM, ←e1],rfl,fun a ha=>?_⟩;obtain⟨x,_,rfl⟩:=List.mem_map.1 ha;rfl
theorem y_ {a:Addr} (h:τ a.block=a.block):iq τ (.cell a)= .cell a:=by obtain⟨b,o,s⟩:=a;simp only at h;simp[iq,bW,h]
theorem diag {α:Type} {Q:α→α→Prop} {s s':Sem α} (h:SR P τ Q s s') (hi:∀a b,τ a=τ b→a=b):s'=s→∀(V:World) (es:Array Event),Clean τ V→NP V→¬GQ (s.runT P V es).1→
 ∃d,(s.runT P V es).2=es++d∧GK τ V (world (s.runT P V es).1) d∧(∀a w,(s.runT P V es).1= .ok a w→Q a a)∧(∀v w,(s.runT P V es).1= .halt (.panic v) w→mv τ v=v):=by
 induction h with
 |pure hq=>intro e V es hc _ _;cases e;exact⟨#[],by simp[Sem.runT],.refl hc,fun a w h=>by cases h;exact hq,fun v w h=>by cases h⟩
 | @load m a k k' _ ih=>
   intro e V es hc hn hb;simp only[Sem.load.injEq,true_and]at e;obtain⟨ea,rfl⟩:=e;simp only[Sem.runT]at hb ⊢;cases hv:V.cell? a with
   |some v=>simp only[hv]at hb ⊢;obtain⟨d,h1,h2,h3,h4⟩:=ih v (by rw[hc.cell hv]) V (es.push ⟨.cell a,false,m== .atomic⟩) hc hn hb;exact⟨#[⟨.cell a,false,m== .atomic⟩]++d,by rw[h1];simp,h2.cons (fun _ _=>rfl) (by simp[iq,ea]),h3,h4⟩
   |none=>
    simp only[hv]at hb ⊢;cases hf:V.farLoad P a (m== .atomic)with
    |error x=>simp only[hf]at hb;exact absurd (hn.farLoad hf) hb
    |ok r=>
     obtain⟨v,l⟩:=r;simp only[hf]at hb ⊢;have hf':=hf;unfold World.farLoad at hf';split at hf'
     ·rename_i at_ u hbk;split at hf'
      ·rename_i r hr;cases hf';obtain⟨e1,e2⟩:=rJ (τ:=τ) hr;have ev:=hc.obj _ _ hbk;simp only[lM,Obj.view.injEq,and_true]at ev;have hat:=oN ev;obtain⟨d,h1,h2,h3,h4⟩:=ih v (by rw[e1]) V (es++l.toArray.map (⟨.cell ·,false,m== .atomic⟩)) hc hn hb;refine⟨l.toArray.map (⟨.cell ·,false,m== .atomic⟩)++d,by rw[h1,Array.append_assoc],h2.cons (fun _ _=>rfl) (fun e he=>?_),h3,h4⟩;obtain⟨x,hx,rfl⟩:=Array.mem_map.1 he;exact y_ (by rw[e2 x (by simpa using hx),hat])
      ·cases hf'
     ·cases hf'
 | @store m a v k k' _ ih=>
   intro e V es hc hn hb;simp only[Sem.store.injEq,true_and]at e;obtain⟨ea,ev,rfl⟩:=e;have hblk:=oN ea;cases ho:one v with
   |false=>rw[gJ ho]at hb;exact absurd trivial hb
   |true=>
    rw[jw ho]at hb ⊢;cases hv:V.cell? a with
    |some x=>
     simp only[hv]at hb ⊢;cases hz:V.frozen? a with
     |true=>simp only[hz, ↓reduceIte]at hb;exact absurd trivial hb
     |false=>simp only[hz,Bool.false_eq_true, ↓reduceIte]at hb ⊢;obtain⟨d,h1,h2,h3,h4⟩:=ih rfl (V.setCell a v) (es.push ⟨.cell a,true,m== .atomic⟩) (hc.setCell a v ev) (hn.setCell a v) hb;exact⟨#[⟨.cell a,true,m== .atomic⟩]++d,by rw[h1];simp,h2.cons (fun b hb=>Ae V a v b fun e=>hb (by rw[←e];exact hblk)) (by simp[iq,ea]),h3,h4⟩
    |none=>
     simp only[hv]at hb ⊢;cases hf:V.farStore P a v (m== .atomic)with
     |error x=>simp only[hf]at hb;exact absurd (hn.Bd hf) hb
     |ok r=>
      obtain⟨V1,l⟩:=r;simp only[hf]at hb ⊢;have hn1:=hn.farStore hf;have hf':=hf;unfold World.farStore at hf';split at hf'
      ·rename_i at_ u hbk;split at hf'
       ·rename_i r hr;cases hf';obtain⟨o,e1,e2,e3⟩:=xW hc hr;have ev:=hc.obj _ _ hbk;simp only[lM,Obj.view.injEq,and_true]at ev;have hat:=oN ev;obtain⟨d,h1,h2,h3,h4⟩:=ih rfl V1 (es++l.toArray.map (⟨.cell ·,true,m== .atomic⟩)) (by rw[e2];exact hc.set _ _ e1) hn1 hb;refine⟨l.toArray.map (⟨.cell ·,true,m== .atomic⟩)++d,by rw[h1,Array.append_assoc],h2.cons (fun b hb=>?_) (fun e he=>?_),h3,h4⟩
        ·rw[e2];exact Array.getElem?_setIfInBounds_ne fun e=>hb (by rw[←e];exact hat)
        ·obtain⟨x,hx,rfl⟩:=Array.mem_map.1 he;exact y_ (by rw[e3 x (by simpa using hx),hat])
       ·cases hf'
      ·cases hf'
 | @new o k k' hp _ ih=>intro e V es hc hn hb;simp only[Sem.new.injEq]at e;obtain⟨eo,rfl⟩:=e;simp only[Sem.runT]at hb ⊢;have hr:=hc.new V.heap.size (Nat.le_refl _);obtain⟨d,h1,h2,h3,h4⟩:=ih V.heap.size (by rw[hr]) {V with heap:=V.heap.push o} es (hc.push o eo) (hn.push o hp) hb;refine⟨#[]++d,by rw[h1];simp,h2.cons (fun b hb=>?_) (by simp),h3,h4⟩;simp only[Array.getElem?_push];rw[if_neg fun e=>hb (by rw[e];exact hr)]
 | @shape r k k' _ ih=>intro e V es hc hn hb;simp only[Sem.shape.injEq]at e;obtain⟨er,rfl⟩:=e;exact ih _ rfl V es hc hn hb
 | @freeze a n k k' _ ih=>intro e V es hc hn hb;simp only[Sem.freeze.injEq,true_and]at e;obtain⟨ea,rfl⟩:=e;have hblk:=oN ea;obtain⟨d,h1,h2,h3,h4⟩:=ih rfl (V.freeze a n) es (hc.freeze a n) (hn.freeze a n) hb;exact⟨#[]++d,by simp only[Sem.runT];rw[h1];simp,h2.cons (fun b hb=>Cw V a n b fun e=>hb (by rw[←e];exact hblk)) (by simp),h3,h4⟩
 | @frozen a k k' _ ih=>intro e V es hc hn hb;simp only[Sem.frozen.injEq]at e;obtain⟨ea,rfl⟩:=e;exact ih _ rfl V es hc hn hb
 | @getObj r k k' _ ih=>
   intro e V es hc hn hb;simp only[Sem.getObj.injEq]at e;obtain⟨er,rfl⟩:=e;simp only[Sem.runT]at hb ⊢;cases ho:V.heap[r]? with
   |none=>simp only[ho]at hb;exact absurd trivial hb
   |some o=>
    simp only[ho]at hb ⊢;have heq:k' (lM τ o)=k' o:=by rw[hc.obj r o ho]
    have key:∀c:Bool,¬GQ ((k' o).runT P V (es.push ⟨.obj r,false,c⟩)).1→∃d,((k' o).runT P V (es.push ⟨.obj r,false,c⟩)).2=es++d∧GK τ V (world ((k' o).runT P V (es.push ⟨.obj r,false,c⟩)).1) d∧
     (∀a w,((k' o).runT P V (es.push ⟨.obj r,false,c⟩)).1= .ok a w→Q a a)∧(∀v w,((k' o).runT P V (es.push ⟨.obj r,false,c⟩)).1= .halt (.panic v) w→mv τ v=v):=by
     intro c hb;obtain⟨d,h1,h2,h3,h4⟩:=ih _ heq V (es.push ⟨.obj r,false,c⟩) hc hn hb;exact⟨#[⟨.obj r,false,c⟩]++d,by rw[h1];simp,h2.cons (fun _ _=>rfl) (by simp[iq,er]),h3,h4⟩
    cases o with
    |cells=>exact absurd trivial hb
    |_=>exact key _ hb
 | @setObj r o k k' hp _ ih=>
   intro e V es hc hn hb;simp only[Sem.setObj.injEq]at e;obtain⟨er,eo,rfl⟩:=e;simp only[Sem.runT]at hb ⊢;cases ho:V.heap[r]? with
   |none=>simp only[ho]at hb;exact absurd trivial hb
   |some oo=>
    simp only[ho]at hb ⊢;cases oo with
    |cells=>exact absurd trivial hb
    |_=>obtain⟨d,h1,h2,h3,h4⟩:=ih rfl {V with heap:=V.heap.setIfInBounds r o} (es.push ⟨.obj r,true,o.isChan⟩) (hc.set r o eo) (hn.set r o hp) hb;exact⟨#[⟨.obj r,true,o.isChan⟩]++d,by rw[h1];simp,h2.cons (fun b hb=>Array.getElem?_setIfInBounds_ne fun e=>hb (by rw[←e];exact er)) (by simp[iq,er]),h3,h4⟩
 | @env k k' hp _ ih=>intro e V es hc hn hb;simp only[Sem.sys.injEq,true_and]at e;obtain rfl:=e;simp only[Sem.runT,Dp]at hb ⊢;obtain⟨d,h1,h2,h3,h4⟩:=ih _ rfl V (es.push ⟨.output,true,false⟩) hc hn hb;exact⟨#[⟨.output,true,false⟩]++d,by rw[h1];simp,h2.cons (fun _ _=>rfl) (by simp[iq]),h3,h4⟩
 | @choose q k k' _ ih=>
   intro e V es hc hn hb;simp only[Sem.choose.injEq,true_and]at e;obtain rfl:=e;simp only[Sem.runT]at hb ⊢;cases hq:q.forced with
   |true=>simp only[hq, ↓reduceIte]at hb ⊢;exact ih _ rfl V es hc hn hb
   |false=>simp only[hq,Bool.false_eq_true, ↓reduceIte]at hb ⊢;obtain⟨d,h1,h2,h3,h4⟩:=ih (q.cut (V.tape V.drawn q)) rfl {V with drawn:=V.drawn+1} es ⟨hc.obj,hc.new⟩ hn hb;exact⟨d,h1,⟨h2.clean,h2.still,h2.evs⟩,h3,h4⟩
 | @program k k' _ ih=>intro e V es hc hn hb;simp only[Sem.program.injEq]at e;subst e;exact ih rfl V es hc hn hb
 | @mark m k k' _ _ ih=>intro e V es hc hn hb;simp only[Sem.mark.injEq]at e;obtain⟨em,rfl⟩:=e;simp only[Sem.runT]at hb ⊢;obtain⟨d,h1,h2,h3,h4⟩:=ih rfl V (es.push ⟨.mark m,false,true⟩) hc hn hb;exact⟨#[⟨.mark m,false,true⟩]++d,by rw[h1];simp,h2.cons (fun _ _=>rfl) (by simp[iq,em]),h3,h4⟩
 | @halt h hh=>
   intro e V es hc hn hb;simp only[Sem.halt.injEq]at e;refine⟨#[],by simp[Sem.runT],.refl hc,?_,?_⟩
   ·intro a w hx;cases hx
   ·intro v w hx;cases hx;simp only[mvH,Halt.panic.injEq]at e;exact e
 |dead hh=>intro e V es hc hn hb;exact absurd hh hb
end Go.Ren
namespace Go.Ren
set_option linter.unusedSimpArgs false
set_option linter.unusedVariables false
set_option linter.unusedSectionVars false
variable {P:Program} {τ:Nat→Nat} {fs:FuncId→Bool}
inductive RO (P:Program) (τ:Nat→Nat) {α:Type} (Q:α→Prop):Sem α→Prop
 |pure {a:α}:Q a→RO P τ Q (.pure a)
 |load {m:Mode} {a:Addr} {k:Value→Sem α}:(∀v,mv τ v=v→RO P τ Q (k v))→RO P τ Q (.load m a k)
 |program {k:Program→Sem α}:RO P τ Q (k P)→RO P τ Q (.program k)
 |choose {q:Question} {k:Nat→Sem α}:(∀n,RO P τ Q (k n))→RO P τ Q (.choose q k)
 |panic {v:Value}:mv τ v=v→RO P τ Q (.halt (.panic v))
 |dead {h:Halt}:Ky h→RO P τ Q (.halt h)
theorem RO.bind {α β:Type} {Q:α→Prop} {T:β→Prop} {s:Sem α} {f:α→Sem β} (h:RO P τ Q s) (hf:∀a,Q a→RO P τ T (f a)):RO P τ T (s>>= f):=by
 show RO P τ T (Sem.bind s f);induction h with
 |pure h=>exact hf _ h
 |load _ ih=>exact .load ih
 |program _ ih=>exact .program ih
 |choose _ ih=>exact .choose ih
 |panic h=>exact .panic h
 |dead h=>exact .dead h
structure Looks (τ:Nat→Nat) (V V':World) (d:Array Event):Prop where
 heap:V'.heap=V.heap
 evs:∀e∈d,e.write=false∧∃a,e.loc= .cell a
theorem RO.runT {α:Type} {Q:α→Prop} {s:Sem α} (h:RO P τ Q s):∀(V:World) (es:Array Event),Clean τ V→NP V→
 ∃d,(s.runT P V es).2=es++d∧Looks τ V (world (s.runT P V es).1) d∧(∀a w,(s.runT P V es).1= .ok a w→Q a)∧(∀v w,(s.runT P V es).1= .halt (.panic v) w→mv τ v=v):=by
 induction h with
 |pure h=>
  intro V es _ _;refine⟨#[],by simp[Sem.runT],⟨rfl,by simp⟩,?_,?_⟩
  ·intro a w e;cases e;exact h
  ·intro v w e;cases e
 | @load m a k _ ih=>
   intro V es hc hn;simp only[Sem.runT];cases hv:V.cell? a with
   |some v=>
    simp only;obtain⟨d,h1,h2,h3,h4⟩:=ih v (hc.cell hv) V (es.push ⟨.cell a,false,m== .atomic⟩) hc hn
    exact⟨#[⟨.cell a,false,m== .atomic⟩]++d,by rw[h1];simp,⟨h2.heap,fun e he=>by
     rcases Array.mem_append.1 he with he|he
     ·simp at he;subst he;exact⟨rfl,_,rfl⟩
     ·exact h2.evs e he⟩,h3,h4⟩
   |none=>
    simp only;cases hf:V.farLoad P a (m== .atomic)with
    |error x=>
     simp only;refine⟨#[],by simp,⟨rfl,by simp⟩,?_,?_⟩
     ·intro a w e;cases e
     ·intro v w e;cases e;exact(hn.farLoad hf).elim
    |ok r=>
     obtain⟨v,l⟩:=r;simp only;have hf':=hf;unfold World.farLoad at hf';split at hf'
     ·split at hf'
      ·rename_i r hr;cases hf';obtain⟨e1,e2⟩:=rJ (τ:=τ) hr;obtain⟨d,h1,h2,h3,h4⟩:=ih v e1 V (es++l.toArray.map (⟨.cell ·,false,m== .atomic⟩)) hc hn;refine⟨l.toArray.map (⟨.cell ·,false,m== .atomic⟩)++d,by rw[h1,Array.append_assoc],⟨h2.heap,fun e he=>?_⟩,h3,h4⟩;rcases Array.mem_append.1 he with he|he
       ·obtain⟨x,hx,rfl⟩:=Array.mem_map.1 he;exact⟨rfl,_,rfl⟩
       ·exact h2.evs e he
      ·cases hf'
     ·cases hf'
 |program _ ih=>intro V es hc hn;exact ih V es hc hn
 | @choose q k _ ih=>
   intro V es hc hn;simp only[Sem.runT];split
   ·exact ih _ V es hc hn
   ·obtain⟨d,h1,h2,h3,h4⟩:=ih (q.cut (V.tape V.drawn q)) {V with drawn:=V.drawn+1} es ⟨hc.obj,hc.new⟩ hn;exact⟨d,h1,⟨h2.heap,h2.evs⟩,h3,h4⟩
 |panic h=>
  intro V es _ _;refine⟨#[],by simp[Sem.runT],⟨rfl,by simp⟩,?_,?_⟩
  ·intro a w e;cases e
  ·intro v w e;cases e;exact h
 | @dead h hb=>
   intro V es _ _;refine⟨#[],by simp[Sem.runT],⟨rfl,by simp⟩,?_,?_⟩
   ·intro a w e;cases e
   ·intro v w e;cases e;exact hb.elim
theorem n_ (t:TypeId):RO P τ (fun _=>True) (underlying t):=by
 refine RO.program ?_;show RO P τ _ (Sem.bind (.pure P) _);simp only[Sem.bind];split
 ·exact .pure trivial
 ·exact .dead trivial
theorem qZ (t:TypeId):RO P τ (fun _=>True) (typeInfo t):=by
 refine RO.program ?_;show RO P τ _ (Sem.bind (.pure P) _);simp only[Sem.bind];split
 ·exact .pure trivial
 ·exact .dead trivial
theorem fZ {α:Type} {Q:α→Prop} {a:α} (h:Q a):RO P τ Q (Pure.pure a:Sem α):=RO.pure h
theorem Fj (t:TypeId):RO P τ (fun _=>True) (isAgg t):=by refine RO.bind (n_ t) fun d _=>?_;cases d<;>exact fZ trivial
theorem uR (a:Addr):∀(n i:Nat) (acc:Array Value),acc.map (mv τ)=acc→RO P τ (fun c=>c.map (mv τ)=c) (loadCellsFrom a i n acc):=by
 intro n;induction n with
 |zero=>intro i acc h;exact fZ h
 |succ n ih=>intro i acc h;exact RO.bind (Q:=fun v=>mv τ v=v) (RO.load fun v hv=>.pure hv) fun v hv=>ih _ _ (by simp[h,hv])
theorem LY (t:TypeId) (x:Value):RO P τ (fun v=>mv τ v=v) (Instr.loadAt t x):=by
 unfold Instr.loadAt;refine RO.bind (Q:=fun _=>True) ?_ fun a _=>?_
 ·unfold Instr.sureAddr;split
  ·exact fZ trivial
  ·exact .dead trivial
 ·refine RO.bind (Fj t) fun b _=>?_;cases b with
  |true=>exact RO.bind (Q:=fun _=>True) (RO.bind (qZ t) fun _ _=>fZ trivial) fun n _=>RO.bind (uR a n 0 #[] (by simp)) fun c hc=>fZ (by simp[mv,hc])
  |false=>exact RO.load fun v hv=>.pure hv
theorem qY {α:Type} {Q:α→Prop} (k:IntKind) (x y:Int) (c:BoundsCode):RO P τ Q (boundsPanic k x y c:Sem α):=by
 unfold boundsPanic;have key:∀b,RO P τ Q (runtimePanic (.bounds (IntKind.i64.wrap x) y b c):Sem α):=fun b=>RO.program (.panic (by simp[mv]));split
 ·exact RO.bind (Q:=fun _=>True) (RO.bind (Q:=fun _=>True) (RO.choose fun _=>.pure trivial) fun _ _=>fZ trivial) fun b _=>key b
 ·exact RO.bind (Q:=fun _=>True) (fZ trivial) fun b _=>key b
theorem Ip (t:TypeId) (x i:Value):RO P τ (fun _=>True) (Instr.indexAt t x i):=by
 unfold Instr.indexAt;refine RO.bind (Q:=fun _=>True) ?_ fun ki _=>?_
 ·unfold asIntOf;split
  ·exact fZ trivial
  ·exact .dead trivial
  ·exact .dead trivial
 ·obtain⟨k,n⟩:=ki
  have fin:∀(base:Option Addr) (len:Nat) (elem:TypeId),RO P τ (fun(_:Value)=>True) (do
   let tiny:=len≤1&&(match ←underlying t with| .array .. =>true|_=>false)
   match base with
   |some a=>
    if 0≤n∧n<len then Pure.pure (.pointer (some (a.add (n.toNat*(←sizeOf elem)))))
    else if tiny then unsupported (.noEntry "op/indexAddr.an index out of range at an array of length 0 or 1 (ledger 616)")
    else boundsPanic k n len .index
   |none=>boundsPanic k n 0 .index):=by
   intro base len elem;refine RO.bind (n_ t) fun d _=>?_;cases base with
   |none=>exact qY _ _ _ _
   |some a=>
    dsimp only;split
    ·exact RO.bind (Q:=fun _=>True) (RO.bind (qZ elem) fun _ _=>fZ trivial) fun n _=>fZ trivial
    ·have fb:∀c:Bool,RO P τ (fun _=>True) (if c=true then unsupported (.noEntry "op/indexAddr.an index out of range at an array of length 0 or 1 (ledger 616)")else boundsPanic k n len .index:Sem Value):=by
      intro c;cases c
      ·exact qY _ _ _ _
      ·exact .dead trivial
     exact fb _
  refine RO.bind (n_ t) fun d _=>?_;cases d with
  |array len elem=>
   refine RO.bind (Q:=fun _=>True) ?_ fun a _=>fin (some a) len elem;unfold Instr.sureAddr;split
   ·exact fZ trivial
   ·exact .dead trivial
  |slice elem=>cases x<;>first|exact RO.dead trivial|exact fin _ _ elem
  |_=>cases x<;>exact RO.dead trivial
end Go.Ren
namespace Go.Ren
set_option linter.unusedSimpArgs false
set_option linter.unusedVariables false
set_option linter.unusedSectionVars false
variable {P:Program} {τ:Nat→Nat} {fs:FuncId→Bool}
def Vm (g:Tmp→Bool):Operand→Bool
 | .tmp t=> !g t
 | .const v=>CS v
 | .func _=>true
 | .global _=>false
def Zy (g:Tmp→Bool):Operand→Bool
 | .tmp t=>g t
 | .global _=>true
 |_=>false
def Vk (g:Tmp→Bool) (o:Oper):Bool:=
 o.op.operands.all (Vm g)||
 (match o.op with
   | .load _ x=>Zy g x
   | .indexAddr _ x i=>Zy g x&&Vm g i&&(match o.dst with|some d=>g d|none=>false)
   |_=>false)
theorem tF {e e2:Operand→Value} (c:Call) (t:TypeId) (hb:(∃b,c.callee= .builtin b)∨∃x,c.callee= .value x) (h:∀x∈c.operands,e x=e2 x):resolve e c t=resolve e2 c t:=by
 have ha:c.args.map e=c.args.map e2:=Array.map_congr_left fun x hx=>h x (by unfold Call.operands;exact Array.mem_append.2 (.inr hx));unfold resolve;rw[ha];rcases hb with⟨b,hb⟩|⟨x,hx⟩
 ·rw[hb]
 ·rw[hx];have:=h x (by unfold Call.operands;rw[hx];simp);simp only[this]
theorem execOp_congr {e e2:Operand→Value} (o:Oper) (ho:vQ fs o.op=true) (h:∀x∈o.op.operands,e x=e2 x):execOp e o=execOp e2 o:=by
 unfold execOp;cases hop:o.op<;>rw[hop]at ho h<;>(try (cases ho;done))<;>simp only[Op.operands]at h<;>dsimp only
 case move x=>rw[h x (by simp)]
 case assign x=>rw[h x (by simp)]
 case pick a b c=>rw[h a (by simp),h b (by simp),h c (by simp)]
 case box t x=>rw[h x (by simp)]
 case build t ps=>
  have:(ps.map fun(i,x)=>(i,e x))=ps.map fun(i,x)=>(i,e2 x):=Array.map_congr_left fun x hx=>by obtain⟨i,x⟩:=x;have:=h x (by simp;exact⟨i,by simpa using hx⟩);simp only[this]
  rw[this]
 case buildSlice t n ps=>
  have:(ps.map fun(i,x)=>(i,e x))=ps.map fun(i,x)=>(i,e2 x):=Array.map_congr_left fun x hx=>by obtain⟨i,x⟩:=x;have:=h x (by simp;exact⟨i,by simpa using hx⟩);simp only[this]
  rw[this]
 case load t x=>rw[h x (by simp)]
 case store t a b=>rw[h a (by simp),h b (by simp)]
 case nilCheck x=>rw[h x (by simp)]
 case binOp op t a b t'=>rw[h a (by simp),h b (by simp)]
 case unOp op t x=>rw[h x (by simp)]
 case convert s d x=>rw[h x (by simp)]
 case makeInterface t x=>rw[h x (by simp)]
 case makeFunc fn a b=>have h1:a.map e=a.map e2:=Array.map_congr_left fun x hx=>h x (Array.mem_append.2 (.inl hx));have h2:b.map e=b.map e2:=Array.map_congr_left fun x hx=>h x (Array.mem_append.2 (.inr hx));rw[h1,h2]
 case makeSlice t a b=>rw[h a (by simp),h b (by simp)]
 case slice t x l hi m=>
  have hl:l.map e=l.map e2:=by cases l with|none=>rfl|some y=>simp only[Option.map_some];rw[h y (by simp)]
  have hh:hi.map e=hi.map e2:=by cases hi with|none=>rfl|some y=>simp only[Option.map_some];rw[h y (by simp)]
  have hm:m.map e=m.map e2:=by cases m with|none=>rfl|some y=>simp only[Option.map_some];rw[h y (by simp)]
  rw[h x (by simp),hl,hh,hm]
 case fieldAddr t x f=>rw[h x (by simp)]
 case field t x f=>rw[h x (by simp)]
 case indexAddr t a b=>rw[h a (by simp),h b (by simp)]
 case index t a b=>rw[h a (by simp),h b (by simp)]
 case extract x i=>rw[h x (by simp)]
 case call c=>
  unfold vQ CL at ho;rw[Bool.and_eq_true]at ho;have hb:(∃b,c.callee= .builtin b)∨∃x,c.callee= .value x:=by
   have:=ho.2
   revert this
   cases c.callee with
   |builtin b=>intro _;exact .inl ⟨b,rfl⟩
   |value x=>intro _;exact .inr ⟨x,rfl⟩
   |invoke r m=>intro x;cases x
  rw[tF c o.type hb h]
 case go c=>
  unfold vQ at ho;simp only[Bool.and_eq_true]at ho;have hb:(∃b,c.callee= .builtin b)∨∃x,c.callee= .value x:=by
   have:=ho.2
   revert this
   cases c.callee with
   |builtin b=>intro x;cases x
   |value x=>intro _;exact .inr ⟨x,rfl⟩
   |invoke r m=>intro x;cases x
  rw[tF c o.type hb h]
 case defer c=>
  unfold vQ at ho;simp only[Bool.and_eq_true]at ho;have hb:(∃b,c.callee= .builtin b)∨∃x,c.callee= .value x:=by
   have:=ho.2
   revert this
   cases c.callee with
   |builtin b=>intro x;cases x
   |value x=>intro _;exact .inr ⟨x,rfl⟩
   |invoke r m=>intro x;cases x
  rw[tF c o.type hb h]
 case panic x=>rw[h x (by simp)]
structure FrU (τ:Nat→Nat) (gs:FuncId→Tmp→Bool) (fr:Frame):Prop where
 tmps:∀(t:Nat) (v:Value),fr.tmps[t]? =some v→gs fr.fn t=false→mv τ v=v
 defers:∀d∈fr.defers,zV τ d=d
 mode:gZ τ fr.mode=fr.mode
structure tq (τ:Nat→Nat) (V V':World) (d:Array Event):Prop where
 clean:Clean τ V'
 still:∀(b:Nat),τ b≠b→V'.heap[b]? =V.heap[b]?
 evs:∀e∈d,iq τ e.loc=e.loc∨e.write=false
theorem acS (H:OkG P τ) (hf:QF P τ fs) {gs:FuncId→Tmp→Bool} {fr:Frame} (hfr:FrU τ gs fr) (o:Oper) (ho:vQ fs o.op=true) (hu:Vk (gs fr.fn) o=true) (V:World) (es:Array Event) (hc:Clean τ V) (hn:NP V)
 (hb:¬GQ ((execOp fr.eval o).runT P V es).1):
 ∃d,((execOp fr.eval o).runT P V es).2=es++d∧tq τ V (world ((execOp fr.eval o).runT P V es).1) d∧
  (∀n w,((execOp fr.eval o).runT P V es).1= .ok n w→za τ n=n∨∃v x,n= .value v∧o.dst=some x∧gs fr.fn x=true)∧(∀v w,((execOp fr.eval o).runT P V es).1= .halt (.panic v) w→mv τ v=v):=by
 unfold Vk at hu;rcases Bool.or_eq_true_iff.1 hu with hu|hu
 ·
  let e2:Operand→Value:=fun x=>match x with
   | .tmp t=>if gs fr.fn t then undef else fr.eval (.tmp t)
   | .global _=>undef
   |x=>fr.eval x
  have hcg:execOp fr.eval o=execOp e2 o:=execOp_congr o ho fun x hx=>by
   rw[Array.all_eq_true']at hu;have:=hu x hx;cases x with
   |tmp t=>
    have:gs fr.fn t=false:=by simpa[Vm]using this
    simp only[e2,this,Bool.false_eq_true, ↓reduceIte]
   |global g=>cases this
   |const v=>rfl
   |func f=>rfl
  have hev:Nb τ e2 e2:=by
   refine⟨fun x hx=>?_,fun f=>rfl⟩;cases x with
   |tmp t=>
    simp only[e2];split
    ·exact iQ.symm
    ·rename_i hg;simp only[Frame.eval,Array.getD_eq_getD_getElem?];cases ht:fr.tmps[t]? with
     |none=>exact iQ.symm
     |some v=>exact(hfr.tmps t v ht (by simpa using hg)).symm
   |global g=>exact iQ.symm
   |const v=>exact(vR hx).symm
   |func f=>simp[e2,Frame.eval,mv]
  rw[hcg]at hb ⊢;obtain⟨d,h1,h2,h3,h4⟩:=diag (vZ H hf hev o ho) H.inj rfl V es hc hn hb;exact⟨d,h1,⟨h2.clean,h2.still,fun e he=>.inl (h2.evs e he)⟩,fun n w hx=>.inl (h3 n w hx).1.symm,h4⟩
 ·
  cases hop:o.op<;>rw[hop]at hu<;>(try (cases hu;done))
  case load t x=>
   have e:execOp fr.eval o=(do Pure.pure (.value (←Instr.loadAt t (fr.eval x)))):=by unfold execOp;rw[hop]
   rw[e]at hb ⊢;have ro:RO P τ (fun n=>za τ n=n) (do Pure.pure (Next.value (←Instr.loadAt t (fr.eval x)))):=RO.bind (LY t (fr.eval x)) fun v hv=>fZ (by simp[za,hv]);obtain⟨d,h1,h2,h3,h4⟩:=ro.runT V es hc hn;refine⟨d,h1,⟨⟨fun b o hb=>hc.obj b o (by rw[←h2.heap];exact hb),fun b hb=>hc.new b (by rw[←h2.heap];exact hb)⟩,fun b _=>by rw[h2.heap],fun e he=>.inr (h2.evs e he).1⟩,fun n w hx=>.inl (h3 n w hx),h4⟩
  case indexAddr t x i=>
   simp only[Bool.and_eq_true]at hu;have e:execOp fr.eval o=(do Pure.pure (.value (←Instr.indexAt t (fr.eval x) (fr.eval i)))):=by unfold execOp;rw[hop]
   rw[e]at hb ⊢;have ro:RO P τ (fun n=>∃v,n=Next.value v) (do Pure.pure (Next.value (←Instr.indexAt t (fr.eval x) (fr.eval i)))):=RO.bind (Ip t (fr.eval x) (fr.eval i)) fun v hv=>fZ ⟨v,rfl⟩;obtain⟨d,h1,h2,h3,h4⟩:=ro.runT V es hc hn;refine⟨d,h1,⟨⟨fun b o hb=>hc.obj b o (by rw[←h2.heap];exact hb),fun b hb=>hc.new b (by rw[←h2.heap];exact hb)⟩,fun b _=>by rw[h2.heap],fun e he=>.inr (h2.evs e he).1⟩,fun n w hx=>?_,h4⟩;obtain⟨v,hv⟩:=h3 n w hx;have:=hu.2
   revert this
   cases hd:o.dst with
   |none=>intro x;cases x
   |some y=>intro hy;exact .inr ⟨v,y,hv,rfl,hy⟩
end Go.Ren
