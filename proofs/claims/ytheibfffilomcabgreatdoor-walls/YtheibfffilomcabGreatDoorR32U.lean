import Derived.Test.YtheibfffilomcabGreatDoorR28U
set_option linter.all false
namespace Go.Ren
set_option linter.unusedSimpArgs false
set_option linter.unusedVariables false
set_option linter.unusedSectionVars false
variable {P:Program} {τ:Nat→Nat}
structure Clean (τ:Nat→Nat) (V:World):Prop where
 obj:∀(b:Nat) (o:Obj),V.heap[b]? =some o→lM τ o=o
 new:∀b,V.heap.size≤b→τ b=b
theorem oN {a:Addr} (h:bW τ a=a):τ a.block=a.block:=congrArg Addr.block h
theorem rV {c c':Array Value} {t t':TypeId} {f f':Nat × Nat}:(Obj.cells c t f= .cells c' t' f')↔c=c'∧t=t'∧f=f':=by simp
theorem Clean.set {V:World} (h:Clean τ V) (b:Nat) (o:Obj) (ho:lM τ o=o):Clean τ {V with heap:=V.heap.setIfInBounds b o}:=by
 refine⟨fun x y hx=>?_,fun x hx=>h.new x (by simpa using hx)⟩;by_cases e:x=b
 ·subst e;simp only[Array.getElem?_setIfInBounds_self]at hx;split at hx
  ·cases hx;exact ho
  ·cases hx
 ·simp only[Array.getElem?_setIfInBounds_ne (fun e'=>e e'.symm)]at hx;exact h.obj x y hx
theorem Clean.modify {V:World} (h:Clean τ V) (b:Nat) (f:Obj→Obj) (hf:∀o,lM τ o=o→lM τ (f o)=f o):Clean τ {V with heap:=V.heap.modify b f}:=by
 rw[modify_eq];cases hb:V.heap[b]? with
 |none=>exact h
 |some o=>exact h.set b (f o) (hf o (h.obj b o hb))
theorem Clean.setCell {V:World} (h:Clean τ V) (a:Addr) (v:Value) (hv:mv τ v=v):Clean τ (V.setCell a v):=by
 refine h.modify _ _ fun o ho=>?_;cases o<;>try exact ho
 simp only[lM,rV,and_true]at ho ⊢;split
 ·exact ho
 ·simp[ho,hv]
theorem Clean.freeze {V:World} (h:Clean τ V) (a:Addr) (n:Nat):Clean τ (V.freeze a n):=by
 unfold World.freeze;split
 ·exact h
 ·refine h.modify _ _ fun o ho=>?_;cases o<;>try exact ho
  simp only[lM,rV,and_true]at ho ⊢;exact ho
theorem Clean.push {V:World} (h:Clean τ V) (o:Obj) (ho:lM τ o=o):Clean τ {V with heap:=V.heap.push o}:=by
 refine⟨fun x y hx=>?_,fun x hx=>h.new x (by simp only[Array.size_push]at hx;omega)⟩;simp only[Array.getElem?_push]at hx;split at hx
 ·cases hx;exact ho
 ·exact h.obj x y hx
theorem Clean.cell {V:World} (h:Clean τ V) {a:Addr} {v:Value} (hv:V.cell? a=some v):mv τ v=v:=by
 unfold World.cell? at hv;split at hv
 ·rename_i c t f hb;have:=h.obj _ _ hb;simp only[lM,rV,and_true]at this;split at hv
  ·cases hv
  ·have e:(c.map (mv τ))[a.off]? =some (mv τ v):=by simp[hv]
   rw[this,hv]at e;simpa using e.symm
 ·cases hv
theorem Ad (V:World) (a:Addr) (v:Value) (b:Nat) (h:a.block≠b):(V.setCell a v).heap[b]? =V.heap[b]? :=by simp[World.setCell,Array.getElem?_modify,h]
theorem Cu (V:World) (a:Addr) (n:Nat) (b:Nat) (h:a.block≠b):(V.freeze a n).heap[b]? =V.heap[b]? :=by
 unfold World.freeze;split
 ·rfl
 ·simp[Array.getElem?_modify,h]
structure GI (τ:Nat→Nat) (V V':World) (d:Array Event):Prop where
 clean:Clean τ V'
 still:∀(b:Nat),τ b≠b→V'.heap[b]? =V.heap[b]?
 evs:∀e∈d,iq τ e.loc=e.loc
theorem GI.refl {V:World} (h:Clean τ V):GI τ V V #[]:=⟨h,fun _ _=>rfl,by simp⟩
theorem GI.cons {V V1 V':World} {d0 d:Array Event} (h1:∀b:Nat,τ b≠b→V1.heap[b]? =V.heap[b]?) (h2:∀e∈d0,iq τ e.loc=e.loc) (h:GI τ V1 V' d):GI τ V V' (d0++d):=
 ⟨h.clean,fun b hb=>(h.still b hb).trans (h1 b hb),fun e he=>by
   rcases Array.mem_append.1 he with he|he
   ·exact h2 e he
   ·exact h.evs e he⟩
theorem Bz {V:World} {at_ k:Addr} {u:TypeId} {atomic:Bool} {c:Array Value} {e:TypeId} {f:Nat × Nat} {first:Nat} {like:Value} {cells:List (Nat × Nat × List UInt8)}
 (h:V.seen P at_ u k atomic= .ok (c,e,f,first,like,cells)):mv τ like=like∧V.heap[at_.block]? =some (.cells c e f):=by
 obtain⟨ab,ao,as⟩:=at_;obtain⟨kb,ko,ks⟩:=k;unfold World.seen at h;simp only[throwThe,MonadExceptOf.throw,MonadExcept.throw,bind,Except.bind,pure,Except.pure]at h;rcases Bool.eq_false_or_eq_true (ks.isSome||as.isSome)with hsp|hsp
 ·simp only[hsp, ↓reduceIte]at h;cases h
 simp only[hsp,Bool.false_eq_true, ↓reduceIte]at h;split at h
 rotate_left
 ·cases h
 rename_i l hl;have hlm:=uM (ρ:=τ) _ _ _ _ hl;split at h
 rotate_left
 ·cases h
 split at h
 rotate_left
 ·cases h
 split at h
 rotate_left
 ·cases h
 rename_i c0 e0 f0 hb;split at h
 ·cases h
 split at h
 rotate_left
 ·cases h
 split at h
 ·cases h
 rename_i cl hcl;have fin:∀{x:Nat},(Except.ok (c0,e0,f0,x,l,cl):Except String _)= .ok (c,e,f,first,like,cells)→mv τ like=like∧V.heap[ab]? =some (.cells c e f):=by intro x hx;simp only[Except.ok.injEq,Prod.mk.injEq]at hx;obtain⟨rfl,rfl,rfl,rfl,rfl,rfl⟩:=hx;exact⟨hlm,hb⟩
 split at h
 ·split at h
  ·split at h
   ·cases h
   ·exact fin h
  ·cases h
 ·exact fin h
theorem rJ {V:World} {at_ k:Addr} {u:TypeId} {atomic:Bool} {v:Value} {l:List Addr} (h:V.viewLoad P at_ u k atomic= .ok (v,l)):mv τ v=v∧∀a∈l,a.block=at_.block:=by
 unfold World.viewLoad at h;cases hs:V.seen P at_ u k atomic with
 |error e=>simp[hs,bind,Except.bind]at h
 |ok r=>
  obtain⟨c,e,f,first,like,cells⟩:=r;obtain⟨h2,h3⟩:=Bz (τ:=τ) hs;simp only[hs,throwThe,MonadExceptOf.throw,MonadExcept.throw,bind,Except.bind,pure,Except.pure]at h;split at h
  rotate_left
  ·cases h
  rename_i v0 hv;simp only[Except.ok.injEq,Prod.mk.injEq]at h;obtain⟨rfl,rfl⟩:=h;refine⟨?_,fun a ha=>?_⟩
  ·have:=tK (ρ:=τ) like;rw[h2]at this;have:=this _▸hv;rw[hv]at this;simpa using this
  ·obtain⟨x,_,rfl⟩:=List.mem_map.1 ha;rfl
theorem xW {V V':World} (hc:Clean τ V) {at_ k:Addr} {u:TypeId} {atomic:Bool} {v:Value} {l:List Addr} (h:V.viewStore P at_ u k v atomic= .ok (V',l)):
 ∃o,lM τ o=o∧V'= {V with heap:=V.heap.setIfInBounds at_.block o}∧∀a∈l,a.block=at_.block:=by
 unfold World.viewStore at h;simp only[throwThe,MonadExceptOf.throw,MonadExcept.throw,bind,Except.bind,pure,Except.pure]at h;split at h
 ·cases h
 split at h
 ·cases h
 rename_i r hs;obtain⟨c,e,f,first,like,cells⟩:=r;obtain⟨_,h3⟩:=Bz (τ:=τ) hs;have hcc:=hc.obj _ _ h3;simp only[lM,rV,and_true]at hcc;split at h
 rotate_left
 ·cases h
 rename_i bytes hb;split at h
 ·cases h
 split at h
 ·cases h
 rename_i c' hc';have key:=uC (ρ:=τ) (first:=first) (frozen:=f) (bytes:=bytes) cells c c';simp only[throwThe,MonadExceptOf.throw,MonadExcept.throw,bind,Except.bind,pure,Except.pure]at key;obtain⟨k1,_⟩:=key hc';rw[hcc]at k1;have e1:=hc'.symm.trans k1;simp only[Except.ok.injEq]at e1;simp only[Except.ok.injEq,Prod.mk.injEq]at h;obtain⟨rfl,rfl⟩:=h;refine⟨.cells c' e f,by simp only[lM, ←e1],rfl,fun a ha=>?_⟩;obtain⟨x,_,rfl⟩:=List.mem_map.1 ha;rfl
theorem y_ {a:Addr} (h:τ a.block=a.block):iq τ (.cell a)= .cell a:=by obtain⟨b,o,s⟩:=a;simp only at h;simp[iq,bW,h]
theorem diag {α:Type} {Q:α→α→Prop} {s s':Sem α} (h:SR P τ Q s s') (hi:∀a b,τ a=τ b→a=b):s'=s→∀(V:World) (es:Array Event),Clean τ V→NP V→¬GM (s.runT P V es).1→
 ∃d,(s.runT P V es).2=es++d∧GI τ V (world (s.runT P V es).1) d∧(∀a w,(s.runT P V es).1= .ok a w→Q a a)∧(∀v w,(s.runT P V es).1= .halt (.panic v) w→mv τ v=v):=by
 induction h with
 |pure hq=>intro e V es hc _ _;cases e;exact⟨#[],by simp[Sem.runT],.refl hc,fun a w h=>by cases h;exact hq,fun v w h=>by cases h⟩
 | @load m a k k' _ ih=>
   intro e V es hc hn hb;simp only[Sem.load.injEq,true_and]at e;obtain⟨ea,rfl⟩:=e;simp only[Sem.runT]at hb ⊢;cases hv:V.cell? a with
   |some v=>simp only[hv]at hb ⊢;obtain⟨d,h1,h2,h3,h4⟩:=ih v (by rw[hc.cell hv]) V (es.push ⟨.cell a,false,m== .atomic⟩) hc hn hb;exact⟨#[⟨.cell a,false,m== .atomic⟩]++d,by rw[h1];simp,h2.cons (fun _ _=>rfl) (by simp[iq,ea]),h3,h4⟩
   |none=>
    simp only[hv]at hb ⊢;cases hf:V.farLoad P a (m== .atomic)with
    |error x=>simp only[hf]at hb;exact absurd (hn.farLoad hf) hb
    |ok r=>
     obtain⟨v,l⟩:=r;simp only[hf]at hb ⊢;have hf':=hf;unfold World.farLoad at hf';split at hf'
     ·rename_i at_ u hbk;split at hf'
      ·rename_i r hr;cases hf';obtain⟨e1,e2⟩:=rJ (τ:=τ) hr;have ev:=hc.obj _ _ hbk;simp only[lM,Obj.view.injEq,and_true]at ev;have hat:=oN ev;obtain⟨d,h1,h2,h3,h4⟩:=ih v (by rw[e1]) V (es++l.toArray.map (⟨.cell ·,false,m== .atomic⟩)) hc hn hb;refine⟨l.toArray.map (⟨.cell ·,false,m== .atomic⟩)++d,by rw[h1,Array.append_assoc],h2.cons (fun _ _=>rfl) (fun e he=>?_),h3,h4⟩;obtain⟨x,hx,rfl⟩:=Array.mem_map.1 he;exact y_ (by rw[e2 x (by simpa using hx),hat])
      ·cases hf'
     ·cases hf'
 | @store m a v k k' _ ih=>
   intro e V es hc hn hb;simp only[Sem.store.injEq,true_and]at e;obtain⟨ea,ev,rfl⟩:=e;have hblk:=oN ea;cases ho:one v with
   |false=>rw[gJ ho]at hb;exact absurd trivial hb
   |true=>
    rw[jw ho]at hb ⊢;cases hv:V.cell? a with
    |some x=>
     simp only[hv]at hb ⊢;cases hz:V.frozen? a with
     |true=>simp only[hz, ↓reduceIte]at hb;exact absurd trivial hb
     |false=>simp only[hz,Bool.false_eq_true, ↓reduceIte]at hb ⊢;obtain⟨d,h1,h2,h3,h4⟩:=ih rfl (V.setCell a v) (es.push ⟨.cell a,true,m== .atomic⟩) (hc.setCell a v ev) (hn.setCell a v) hb;exact⟨#[⟨.cell a,true,m== .atomic⟩]++d,by rw[h1];simp,h2.cons (fun b hb=>Ad V a v b fun e=>hb (by rw[←e];exact hblk)) (by simp[iq,ea]),h3,h4⟩
    |none=>
     simp only[hv]at hb ⊢;cases hf:V.farStore P a v (m== .atomic)with
     |error x=>simp only[hf]at hb;exact absurd (hn.Bc hf) hb
     |ok r=>
      obtain⟨V1,l⟩:=r;simp only[hf]at hb ⊢;have hn1:=hn.farStore hf;have hf':=hf;unfold World.farStore at hf';split at hf'
      ·rename_i at_ u hbk;split at hf'
       ·rename_i r hr;cases hf';obtain⟨o,e1,e2,e3⟩:=xW hc hr;have ev:=hc.obj _ _ hbk;simp only[lM,Obj.view.injEq,and_true]at ev;have hat:=oN ev;obtain⟨d,h1,h2,h3,h4⟩:=ih rfl V1 (es++l.toArray.map (⟨.cell ·,true,m== .atomic⟩)) (by rw[e2];exact hc.set _ _ e1) hn1 hb;refine⟨l.toArray.map (⟨.cell ·,true,m== .atomic⟩)++d,by rw[h1,Array.append_assoc],h2.cons (fun b hb=>?_) (fun e he=>?_),h3,h4⟩
        ·rw[e2];exact Array.getElem?_setIfInBounds_ne fun e=>hb (by rw[←e];exact hat)
        ·obtain⟨x,hx,rfl⟩:=Array.mem_map.1 he;exact y_ (by rw[e3 x (by simpa using hx),hat])
       ·cases hf'
      ·cases hf'
 | @new o k k' hp _ ih=>intro e V es hc hn hb;simp only[Sem.new.injEq]at e;obtain⟨eo,rfl⟩:=e;simp only[Sem.runT]at hb ⊢;have hr:=hc.new V.heap.size (Nat.le_refl _);obtain⟨d,h1,h2,h3,h4⟩:=ih V.heap.size (by rw[hr]) {V with heap:=V.heap.push o} es (hc.push o eo) (hn.push o hp) hb;refine⟨#[]++d,by rw[h1];simp,h2.cons (fun b hb=>?_) (by simp),h3,h4⟩;simp only[Array.getElem?_push];rw[if_neg fun e=>hb (by rw[e];exact hr)]
 | @shape r k k' _ ih=>intro e V es hc hn hb;simp only[Sem.shape.injEq]at e;obtain⟨er,rfl⟩:=e;exact ih _ rfl V es hc hn hb
 | @freeze a n k k' _ ih=>intro e V es hc hn hb;simp only[Sem.freeze.injEq,true_and]at e;obtain⟨ea,rfl⟩:=e;have hblk:=oN ea;obtain⟨d,h1,h2,h3,h4⟩:=ih rfl (V.freeze a n) es (hc.freeze a n) (hn.freeze a n) hb;exact⟨#[]++d,by simp only[Sem.runT];rw[h1];simp,h2.cons (fun b hb=>Cu V a n b fun e=>hb (by rw[←e];exact hblk)) (by simp),h3,h4⟩
 | @frozen a k k' _ ih=>intro e V es hc hn hb;simp only[Sem.frozen.injEq]at e;obtain⟨ea,rfl⟩:=e;exact ih _ rfl V es hc hn hb
 | @getObj r k k' _ ih=>
   intro e V es hc hn hb;simp only[Sem.getObj.injEq]at e;obtain⟨er,rfl⟩:=e;simp only[Sem.runT]at hb ⊢;cases ho:V.heap[r]? with
   |none=>simp only[ho]at hb;exact absurd trivial hb
   |some o=>
    simp only[ho]at hb ⊢;have heq:k' (lM τ o)=k' o:=by rw[hc.obj r o ho]
    have key:∀c:Bool,¬GM ((k' o).runT P V (es.push ⟨.obj r,false,c⟩)).1→∃d,((k' o).runT P V (es.push ⟨.obj r,false,c⟩)).2=es++d∧GI τ V (world ((k' o).runT P V (es.push ⟨.obj r,false,c⟩)).1) d∧
     (∀a w,((k' o).runT P V (es.push ⟨.obj r,false,c⟩)).1= .ok a w→Q a a)∧(∀v w,((k' o).runT P V (es.push ⟨.obj r,false,c⟩)).1= .halt (.panic v) w→mv τ v=v):=by
     intro c hb;obtain⟨d,h1,h2,h3,h4⟩:=ih _ heq V (es.push ⟨.obj r,false,c⟩) hc hn hb;exact⟨#[⟨.obj r,false,c⟩]++d,by rw[h1];simp,h2.cons (fun _ _=>rfl) (by simp[iq,er]),h3,h4⟩
    cases o with
    |cells=>exact absurd trivial hb
    |_=>exact key _ hb
 | @setObj r o k k' hp _ ih=>
   intro e V es hc hn hb;simp only[Sem.setObj.injEq]at e;obtain⟨er,eo,rfl⟩:=e;simp only[Sem.runT]at hb ⊢;cases ho:V.heap[r]? with
   |none=>simp only[ho]at hb;exact absurd trivial hb
   |some oo=>
    simp only[ho]at hb ⊢;cases oo with
    |cells=>exact absurd trivial hb
    |_=>obtain⟨d,h1,h2,h3,h4⟩:=ih rfl {V with heap:=V.heap.setIfInBounds r o} (es.push ⟨.obj r,true,o.isChan⟩) (hc.set r o eo) (hn.set r o hp) hb;exact⟨#[⟨.obj r,true,o.isChan⟩]++d,by rw[h1];simp,h2.cons (fun b hb=>Array.getElem?_setIfInBounds_ne fun e=>hb (by rw[←e];exact er)) (by simp[iq,er]),h3,h4⟩
 | @env k k' hp _ ih=>intro e V es hc hn hb;simp only[Sem.sys.injEq,true_and]at e;obtain rfl:=e;simp only[Sem.runT,Dm]at hb ⊢;obtain⟨d,h1,h2,h3,h4⟩:=ih _ rfl V (es.push ⟨.output,true,false⟩) hc hn hb;exact⟨#[⟨.output,true,false⟩]++d,by rw[h1];simp,h2.cons (fun _ _=>rfl) (by simp[iq]),h3,h4⟩
 | @choose q k k' _ ih=>
   intro e V es hc hn hb;simp only[Sem.choose.injEq,true_and]at e;obtain rfl:=e;simp only[Sem.runT]at hb ⊢;cases hq:q.forced with
   |true=>simp only[hq, ↓reduceIte]at hb ⊢;exact ih _ rfl V es hc hn hb
   |false=>simp only[hq,Bool.false_eq_true, ↓reduceIte]at hb ⊢;obtain⟨d,h1,h2,h3,h4⟩:=ih (q.cut (V.tape V.drawn q)) rfl {V with drawn:=V.drawn+1} es ⟨hc.obj,hc.new⟩ hn hb;exact⟨d,h1,⟨h2.clean,h2.still,h2.evs⟩,h3,h4⟩
 | @program k k' _ ih=>intro e V es hc hn hb;simp only[Sem.program.injEq]at e;subst e;exact ih rfl V es hc hn hb
 | @mark m k k' _ _ ih=>intro e V es hc hn hb;simp only[Sem.mark.injEq]at e;obtain⟨em,rfl⟩:=e;simp only[Sem.runT]at hb ⊢;obtain⟨d,h1,h2,h3,h4⟩:=ih rfl V (es.push ⟨.mark m,false,true⟩) hc hn hb;exact⟨#[⟨.mark m,false,true⟩]++d,by rw[h1];simp,h2.cons (fun _ _=>rfl) (by simp[iq,em]),h3,h4⟩
 | @halt h hh=>
   intro e V es hc hn hb;simp only[Sem.halt.injEq]at e;refine⟨#[],by simp[Sem.runT],.refl hc,?_,?_⟩
   ·intro a w hx;cases hx
   ·intro v w hx;cases hx;simp only[mvH,Halt.panic.injEq]at e;exact e
 |dead hh=>intro e V es hc hn hb;exact absurd hh hb
end Go.Ren
namespace Go.Ren
set_option linter.unusedSimpArgs false
set_option linter.unusedVariables false
set_option linter.unusedSectionVars false
variable {P:Program} {τ:Nat→Nat} {fs:FuncId→Bool}
inductive RO (P:Program) (τ:Nat→Nat) {α:Type} (Q:α→Prop):Sem α→Prop
 |pure {a:α}:Q a→RO P τ Q (.pure a)
 |load {m:Mode} {a:Addr} {k:Value→Sem α}:(∀v,mv τ v=v→RO P τ Q (k v))→RO P τ Q (.load m a k)
 |program {k:Program→Sem α}:RO P τ Q (k P)→RO P τ Q (.program k)
 |choose {q:Question} {k:Nat→Sem α}:(∀n,RO P τ Q (k n))→RO P τ Q (.choose q k)
 |panic {v:Value}:mv τ v=v→RO P τ Q (.halt (.panic v))
 |dead {h:Halt}:Ku h→RO P τ Q (.halt h)
theorem RO.bind {α β:Type} {Q:α→Prop} {T:β→Prop} {s:Sem α} {f:α→Sem β} (h:RO P τ Q s) (hf:∀a,Q a→RO P τ T (f a)):RO P τ T (s>>= f):=by
 show RO P τ T (Sem.bind s f);induction h with
 |pure h=>exact hf _ h
 |load _ ih=>exact .load ih
 |program _ ih=>exact .program ih
 |choose _ ih=>exact .choose ih
 |panic h=>exact .panic h
 |dead h=>exact .dead h
structure Looks (τ:Nat→Nat) (V V':World) (d:Array Event):Prop where
 heap:V'.heap=V.heap
 evs:∀e∈d,e.write=false∧∃a,e.loc= .cell a
theorem RO.runT {α:Type} {Q:α→Prop} {s:Sem α} (h:RO P τ Q s):∀(V:World) (es:Array Event),Clean τ V→NP V→
 ∃d,(s.runT P V es).2=es++d∧Looks τ V (world (s.runT P V es).1) d∧(∀a w,(s.runT P V es).1= .ok a w→Q a)∧(∀v w,(s.runT P V es).1= .halt (.panic v) w→mv τ v=v):=by
 induction h with
 |pure h=>
  intro V es _ _;refine⟨#[],by simp[Sem.runT],⟨rfl,by simp⟩,?_,?_⟩
  ·intro a w e;cases e;exact h
  ·intro v w e;cases e
 | @load m a k _ ih=>
   intro V es hc hn;simp only[Sem.runT];cases hv:V.cell? a with
   |some v=>
    simp only;obtain⟨d,h1,h2,h3,h4⟩:=ih v (hc.cell hv) V (es.push ⟨.cell a,false,m== .atomic⟩) hc hn
    exact⟨#[⟨.cell a,false,m== .atomic⟩]++d,by rw[h1];simp,⟨h2.heap,fun e he=>by
     rcases Array.mem_append.1 he with he|he
     ·simp at he;subst he;exact⟨rfl,_,rfl⟩
     ·exact h2.evs e he⟩,h3,h4⟩
   |none=>
    simp only;cases hf:V.farLoad P a (m== .atomic)with
    |error x=>
     simp only;refine⟨#[],by simp,⟨rfl,by simp⟩,?_,?_⟩
     ·intro a w e;cases e
     ·intro v w e;cases e;exact(hn.farLoad hf).elim
    |ok r=>
     obtain⟨v,l⟩:=r;simp only;have hf':=hf;unfold World.farLoad at hf';split at hf'
     ·split at hf'
      ·rename_i r hr;cases hf';obtain⟨e1,e2⟩:=rJ (τ:=τ) hr;obtain⟨d,h1,h2,h3,h4⟩:=ih v e1 V (es++l.toArray.map (⟨.cell ·,false,m== .atomic⟩)) hc hn;refine⟨l.toArray.map (⟨.cell ·,false,m== .atomic⟩)++d,by rw[h1,Array.append_assoc],⟨h2.heap,fun e he=>?_⟩,h3,h4⟩;rcases Array.mem_append.1 he with he|he
       ·obtain⟨x,hx,rfl⟩:=Array.mem_map.1 he;exact⟨rfl,_,rfl⟩
       ·exact h2.evs e he
      ·cases hf'
     ·cases hf'
 |program _ ih=>intro V es hc hn;exact ih V es hc hn
 | @choose q k _ ih=>
   intro V es hc hn;simp only[Sem.runT];split
   ·exact ih _ V es hc hn
   ·obtain⟨d,h1,h2,h3,h4⟩:=ih (q.cut (V.tape V.drawn q)) {V with drawn:=V.drawn+1} es ⟨hc.obj,hc.new⟩ hn;exact⟨d,h1,⟨h2.heap,h2.evs⟩,h3,h4⟩
 |panic h=>
  intro V es _ _;refine⟨#[],by simp[Sem.runT],⟨rfl,by simp⟩,?_,?_⟩
  ·intro a w e;cases e
  ·intro v w e;cases e;exact h
 | @dead h hb=>
   intro V es _ _;refine⟨#[],by simp[Sem.runT],⟨rfl,by simp⟩,?_,?_⟩
   ·intro a w e;cases e
   ·intro v w e;cases e;exact hb.elim
theorem n_ (t:TypeId):RO P τ (fun _=>True) (underlying t):=by
 refine RO.program ?_;show RO P τ _ (Sem.bind (.pure P) _);simp only[Sem.bind];split
 ·exact .pure trivial
 ·exact .dead trivial
theorem qZ (t:TypeId):RO P τ (fun _=>True) (typeInfo t):=by
 refine RO.program ?_;show RO P τ _ (Sem.bind (.pure P) _);simp only[Sem.bind];split
 ·exact .pure trivial
 ·exact .dead trivial
theorem fZ {α:Type} {Q:α→Prop} {a:α} (h:Q a):RO P τ Q (Pure.pure a:Sem α):=RO.pure h
theorem Fg (t:TypeId):RO P τ (fun _=>True) (isAgg t):=by refine RO.bind (n_ t) fun d _=>?_;cases d<;>exact fZ trivial
theorem uR (a:Addr):∀(n i:Nat) (acc:Array Value),acc.map (mv τ)=acc→RO P τ (fun c=>c.map (mv τ)=c) (loadCellsFrom a i n acc):=by
 intro n;induction n with
 |zero=>intro i acc h;exact fZ h
 |succ n ih=>intro i acc h;exact RO.bind (Q:=fun v=>mv τ v=v) (RO.load fun v hv=>.pure hv) fun v hv=>ih _ _ (by simp[h,hv])
theorem LV (t:TypeId) (x:Value):RO P τ (fun v=>mv τ v=v) (Instr.loadAt t x):=by
 unfold Instr.loadAt;refine RO.bind (Q:=fun _=>True) ?_ fun a _=>?_
 ·unfold Instr.sureAddr;split
  ·exact fZ trivial
  ·exact .dead trivial
 ·refine RO.bind (Fg t) fun b _=>?_;cases b with
  |true=>exact RO.bind (Q:=fun _=>True) (RO.bind (qZ t) fun _ _=>fZ trivial) fun n _=>RO.bind (uR a n 0 #[] (by simp)) fun c hc=>fZ (by simp[mv,hc])
  |false=>exact RO.load fun v hv=>.pure hv
theorem qY {α:Type} {Q:α→Prop} (k:IntKind) (x y:Int) (c:BoundsCode):RO P τ Q (boundsPanic k x y c:Sem α):=by
 unfold boundsPanic;have key:∀b,RO P τ Q (runtimePanic (.bounds (IntKind.i64.wrap x) y b c):Sem α):=fun b=>RO.program (.panic (by simp[mv]));split
 ·exact RO.bind (Q:=fun _=>True) (RO.bind (Q:=fun _=>True) (RO.choose fun _=>.pure trivial) fun _ _=>fZ trivial) fun b _=>key b
 ·exact RO.bind (Q:=fun _=>True) (fZ trivial) fun b _=>key b
theorem Im (t:TypeId) (x i:Value):RO P τ (fun _=>True) (Instr.indexAt t x i):=by
 unfold Instr.indexAt;refine RO.bind (Q:=fun _=>True) ?_ fun ki _=>?_
 ·unfold asIntOf;split
  ·exact fZ trivial
  ·exact .dead trivial
  ·exact .dead trivial
 ·obtain⟨k,n⟩:=ki
  have fin:∀(base:Option Addr) (len:Nat) (elem:TypeId),RO P τ (fun(_:Value)=>True) (do
   let tiny:=len≤1&&(match ←underlying t with| .array .. =>true|_=>false)
   match base with
   |some a=>
    if 0≤n∧n<len then Pure.pure (.pointer (some (a.add (n.toNat*(←sizeOf elem)))))
    else if tiny then unsupported (.noEntry "op/indexAddr.an index out of range at an array of length 0 or 1 (ledger 616)")
    else boundsPanic k n len .index
   |none=>boundsPanic k n 0 .index):=by
   intro base len elem;refine RO.bind (n_ t) fun d _=>?_;cases base with
   |none=>exact qY _ _ _ _
   |some a=>
    dsimp only;split
    ·exact RO.bind (Q:=fun _=>True) (RO.bind (qZ elem) fun _ _=>fZ trivial) fun n _=>fZ trivial
    ·have fb:∀c:Bool,RO P τ (fun _=>True) (if c=true then unsupported (.noEntry "op/indexAddr.an index out of range at an array of length 0 or 1 (ledger 616)")else boundsPanic k n len .index:Sem Value):=by
      intro c;cases c
      ·exact qY _ _ _ _
      ·exact .dead trivial
     exact fb _
  refine RO.bind (n_ t) fun d _=>?_;cases d with
  |array len elem=>
   refine RO.bind (Q:=fun _=>True) ?_ fun a _=>fin (some a) len elem;unfold Instr.sureAddr;split
   ·exact fZ trivial
   ·exact .dead trivial
  |slice elem=>cases x<;>first|exact RO.dead trivial|exact fin _ _ elem
  |_=>cases x<;>exact RO.dead trivial
end Go.Ren
namespace Go.Ren
set_option linter.unusedSimpArgs false
set_option linter.unusedVariables false
set_option linter.unusedSectionVars false
variable {P:Program} {τ:Nat→Nat} {fs:FuncId→Bool}
def Vi (g:Tmp→Bool):Operand→Bool
 | .tmp t=> !g t
 | .const v=>CQ v
 | .func _=>true
 | .global _=>false
def Zu (g:Tmp→Bool):Operand→Bool
 | .tmp t=>g t
 | .global _=>true
 |_=>false
def Vg (g:Tmp→Bool) (o:Oper):Bool:=
 o.op.operands.all (Vi g)||
 (match o.op with
   | .load _ x=>Zu g x
   | .indexAddr _ x i=>Zu g x&&Vi g i&&(match o.dst with|some d=>g d|none=>false)
   |_=>false)
theorem tF {e e2:Operand→Value} (c:Call) (t:TypeId) (hb:(∃b,c.callee= .builtin b)∨∃x,c.callee= .value x) (h:∀x∈c.operands,e x=e2 x):resolve e c t=resolve e2 c t:=by
 have ha:c.args.map e=c.args.map e2:=Array.map_congr_left fun x hx=>h x (by unfold Call.operands;exact Array.mem_append.2 (.inr hx));unfold resolve;rw[ha];rcases hb with⟨b,hb⟩|⟨x,hx⟩
 ·rw[hb]
 ·rw[hx];have:=h x (by unfold Call.operands;rw[hx];simp);simp only[this]
theorem execOp_congr {e e2:Operand→Value} (o:Oper) (ho:vQ fs o.op=true) (h:∀x∈o.op.operands,e x=e2 x):execOp e o=execOp e2 o:=by
 unfold execOp;cases hop:o.op<;>rw[hop]at ho h<;>(try (cases ho;done))<;>simp only[Op.operands]at h<;>dsimp only
 case move x=>rw[h x (by simp)]
 case assign x=>rw[h x (by simp)]
 case pick a b c=>rw[h a (by simp),h b (by simp),h c (by simp)]
 case box t x=>rw[h x (by simp)]
 case build t ps=>
  have:(ps.map fun(i,x)=>(i,e x))=ps.map fun(i,x)=>(i,e2 x):=Array.map_congr_left fun x hx=>by obtain⟨i,x⟩:=x;have:=h x (by simp;exact⟨i,by simpa using hx⟩);simp only[this]
  rw[this]
 case buildSlice t n ps=>
  have:(ps.map fun(i,x)=>(i,e x))=ps.map fun(i,x)=>(i,e2 x):=Array.map_congr_left fun x hx=>by obtain⟨i,x⟩:=x;have:=h x (by simp;exact⟨i,by simpa using hx⟩);simp only[this]
  rw[this]
 case load t x=>rw[h x (by simp)]
 case store t a b=>rw[h a (by simp),h b (by simp)]
 case nilCheck x=>rw[h x (by simp)]
 case binOp op t a b t'=>rw[h a (by simp),h b (by simp)]
 case unOp op t x=>rw[h x (by simp)]
 case convert s d x=>rw[h x (by simp)]
 case makeInterface t x=>rw[h x (by simp)]
 case makeFunc fn a b=>have h1:a.map e=a.map e2:=Array.map_congr_left fun x hx=>h x (Array.mem_append.2 (.inl hx));have h2:b.map e=b.map e2:=Array.map_congr_left fun x hx=>h x (Array.mem_append.2 (.inr hx));rw[h1,h2]
 case makeSlice t a b=>rw[h a (by simp),h b (by simp)]
 case slice t x l hi m=>
  have hl:l.map e=l.map e2:=by cases l with|none=>rfl|some y=>simp only[Option.map_some];rw[h y (by simp)]
  have hh:hi.map e=hi.map e2:=by cases hi with|none=>rfl|some y=>simp only[Option.map_some];rw[h y (by simp)]
  have hm:m.map e=m.map e2:=by cases m with|none=>rfl|some y=>simp only[Option.map_some];rw[h y (by simp)]
  rw[h x (by simp),hl,hh,hm]
 case fieldAddr t x f=>rw[h x (by simp)]
 case field t x f=>rw[h x (by simp)]
 case indexAddr t a b=>rw[h a (by simp),h b (by simp)]
 case index t a b=>rw[h a (by simp),h b (by simp)]
 case extract x i=>rw[h x (by simp)]
 case call c=>
  unfold vQ CJ at ho;rw[Bool.and_eq_true]at ho;have hb:(∃b,c.callee= .builtin b)∨∃x,c.callee= .value x:=by
   have:=ho.2
   revert this
   cases c.callee with
   |builtin b=>intro _;exact .inl ⟨b,rfl⟩
   |value x=>intro _;exact .inr ⟨x,rfl⟩
   |invoke r m=>intro x;cases x
  rw[tF c o.type hb h]
 case go c=>
  unfold vQ at ho;simp only[Bool.and_eq_true]at ho;have hb:(∃b,c.callee= .builtin b)∨∃x,c.callee= .value x:=by
   have:=ho.2
   revert this
   cases c.callee with
   |builtin b=>intro x;cases x
   |value x=>intro _;exact .inr ⟨x,rfl⟩
   |invoke r m=>intro x;cases x
  rw[tF c o.type hb h]
 case defer c=>
  unfold vQ at ho;simp only[Bool.and_eq_true]at ho;have hb:(∃b,c.callee= .builtin b)∨∃x,c.callee= .value x:=by
   have:=ho.2
   revert this
   cases c.callee with
   |builtin b=>intro x;cases x
   |value x=>intro _;exact .inr ⟨x,rfl⟩
   |invoke r m=>intro x;cases x
  rw[tF c o.type hb h]
 case panic x=>rw[h x (by simp)]
structure FrU (τ:Nat→Nat) (gs:FuncId→Tmp→Bool) (fr:Frame):Prop where
 tmps:∀(t:Nat) (v:Value),fr.tmps[t]? =some v→gs fr.fn t=false→mv τ v=v
 defers:∀d∈fr.defers,zU τ d=d
 mode:gZ τ fr.mode=fr.mode
structure tq (τ:Nat→Nat) (V V':World) (d:Array Event):Prop where
 clean:Clean τ V'
 still:∀(b:Nat),τ b≠b→V'.heap[b]? =V.heap[b]?
 evs:∀e∈d,iq τ e.loc=e.loc∨e.write=false
theorem acN (H:OkG P τ) (hf:QC P τ fs) {gs:FuncId→Tmp→Bool} {fr:Frame} (hfr:FrU τ gs fr) (o:Oper) (ho:vQ fs o.op=true) (hu:Vg (gs fr.fn) o=true) (V:World) (es:Array Event) (hc:Clean τ V) (hn:NP V)
 (hb:¬GM ((execOp fr.eval o).runT P V es).1):
 ∃d,((execOp fr.eval o).runT P V es).2=es++d∧tq τ V (world ((execOp fr.eval o).runT P V es).1) d∧
  (∀n w,((execOp fr.eval o).runT P V es).1= .ok n w→za τ n=n∨∃v x,n= .value v∧o.dst=some x∧gs fr.fn x=true)∧(∀v w,((execOp fr.eval o).runT P V es).1= .halt (.panic v) w→mv τ v=v):=by
 unfold Vg at hu;rcases Bool.or_eq_true_iff.1 hu with hu|hu
 ·
  let e2:Operand→Value:=fun x=>match x with
   | .tmp t=>if gs fr.fn t then undef else fr.eval (.tmp t)
   | .global _=>undef
   |x=>fr.eval x
  have hcg:execOp fr.eval o=execOp e2 o:=execOp_congr o ho fun x hx=>by
   rw[Array.all_eq_true']at hu;have:=hu x hx;cases x with
   |tmp t=>
    have:gs fr.fn t=false:=by simpa[Vi]using this
    simp only[e2,this,Bool.false_eq_true, ↓reduceIte]
   |global g=>cases this
   |const v=>rfl
   |func f=>rfl
  have hev:M9 τ e2 e2:=by
   refine⟨fun x hx=>?_,fun f=>rfl⟩;cases x with
   |tmp t=>
    simp only[e2];split
    ·exact iQ.symm
    ·rename_i hg;simp only[Frame.eval,Array.getD_eq_getD_getElem?];cases ht:fr.tmps[t]? with
     |none=>exact iQ.symm
     |some v=>exact(hfr.tmps t v ht (by simpa using hg)).symm
   |global g=>exact iQ.symm
   |const v=>exact(vR hx).symm
   |func f=>simp[e2,Frame.eval,mv]
  rw[hcg]at hb ⊢;obtain⟨d,h1,h2,h3,h4⟩:=diag (vZ H hf hev o ho) H.inj rfl V es hc hn hb;exact⟨d,h1,⟨h2.clean,h2.still,fun e he=>.inl (h2.evs e he)⟩,fun n w hx=>.inl (h3 n w hx).1.symm,h4⟩
 ·
  cases hop:o.op<;>rw[hop]at hu<;>(try (cases hu;done))
  case load t x=>
   have e:execOp fr.eval o=(do Pure.pure (.value (←Instr.loadAt t (fr.eval x)))):=by unfold execOp;rw[hop]
   rw[e]at hb ⊢;have ro:RO P τ (fun n=>za τ n=n) (do Pure.pure (Next.value (←Instr.loadAt t (fr.eval x)))):=RO.bind (LV t (fr.eval x)) fun v hv=>fZ (by simp[za,hv]);obtain⟨d,h1,h2,h3,h4⟩:=ro.runT V es hc hn;refine⟨d,h1,⟨⟨fun b o hb=>hc.obj b o (by rw[←h2.heap];exact hb),fun b hb=>hc.new b (by rw[←h2.heap];exact hb)⟩,fun b _=>by rw[h2.heap],fun e he=>.inr (h2.evs e he).1⟩,fun n w hx=>.inl (h3 n w hx),h4⟩
  case indexAddr t x i=>
   simp only[Bool.and_eq_true]at hu;have e:execOp fr.eval o=(do Pure.pure (.value (←Instr.indexAt t (fr.eval x) (fr.eval i)))):=by unfold execOp;rw[hop]
   rw[e]at hb ⊢;have ro:RO P τ (fun n=>∃v,n=Next.value v) (do Pure.pure (Next.value (←Instr.indexAt t (fr.eval x) (fr.eval i)))):=RO.bind (Im t (fr.eval x) (fr.eval i)) fun v hv=>fZ ⟨v,rfl⟩;obtain⟨d,h1,h2,h3,h4⟩:=ro.runT V es hc hn;refine⟨d,h1,⟨⟨fun b o hb=>hc.obj b o (by rw[←h2.heap];exact hb),fun b hb=>hc.new b (by rw[←h2.heap];exact hb)⟩,fun b _=>by rw[h2.heap],fun e he=>.inr (h2.evs e he).1⟩,fun n w hx=>?_,h4⟩;obtain⟨v,hv⟩:=h3 n w hx;have:=hu.2
   revert this
   cases hd:o.dst with
   |none=>intro x;cases x
   |some y=>intro hy;exact .inr ⟨v,y,hv,rfl,hy⟩
end Go.Ren
namespace Go.Ren
set_option linter.unusedSimpArgs false
set_option linter.unusedVariables false
set_option linter.unusedSectionVars false
variable {P:Program} {τ:Nat→Nat} {fs:FuncId→Bool} {gs:FuncId→Tmp→Bool}
def nX (g:Tmp→Bool):Code→Bool
 | .region _ ops _=>ops.all fun o=>Vg g o
 | .seq a b=>nX g a&&nX g b
 | .cond _ a b=>nX g a&&nX g b
 | .block _ b=>nX g b
 | .loop b=>nX g b
 | .scope b=>nX g b
 | .rangeFunc .. =>false
 |_=>true
def vP (g:Tmp→Bool):Item→Bool
 | .code c=>nX g c
 | .inBlock _=>true
 | .inLoop b=>nX g b
 | .inScope b=>nX g b
 | .inRegion ops _=>ops.all fun o=>Vg g o
 |_=>false
def Lu (g:Tmp→Bool):ResultVar→Bool
 | .tmp t=> !g t
 | .cell _ _=>true
structure US (τ:Nat→Nat) (fs:FuncId→Bool) (gs:FuncId→Tmp→Bool) (fr:Frame):Prop where
 ok:dZ fs fr
 u:FrU τ gs fr
 todo:∀i∈fr.todo,vP (gs fr.fn) i=true
 fn:fs fr.fn=true
 Rq:fr.defers=[]
structure yo (P:Program) (fs:FuncId→Bool) (gs:FuncId→Tmp→Bool):Prop where
 body:∀f,fs f=true→∃fn,P.funcs[f]? =some fn∧(∀c,fn.body=some c→nX (gs f) c=true)∧fn.results.all (Lu (gs f))=true
theorem pg {fr:Frame} (h:US τ fs gs fr) (v:Value) (hv:mv τ v=v∨∃o x,fr.oper?=some o∧o.dst=some x∧gs fr.fn x=true):US τ fs gs (fr.finish v):=by
 have hok:=j_ h.ok v;obtain⟨fn,tmps,todo,defers,mode,kind,round⟩:=fr;cases todo with
 |nil=>exact h
 |cons i k=>
  have hi:=h.todo i (by simp);cases i<;>first|exact h|exact Bool.noConfusion hi|skip
  rename_i ops l;cases l with
  |nil=>exact h
  |cons j l=>
   refine⟨hok,⟨fun t x hx hg=>?_,h.u.defers,h.u.mode⟩,fun x hx=>?_,h.fn,h.Rq⟩
   ·simp only[Frame.finish]at hx hg;cases hd:(ops[j]?).bind (·.dst)with
    |none=>rw[hd]at hx;exact h.u.tmps t x hx hg
    |some d=>
     rw[hd]at hx;simp only at hx;by_cases e:d=t
     ·subst e;rw[Array.getElem?_setIfInBounds_self]at hx;split at hx
      ·cases hx;rcases hv with hv|⟨o,y,ho,hy,hyg⟩
       ·exact hv
       ·exfalso;simp only[Frame.oper?]at ho;rw[ho]at hd;simp only[Option.bind_some]at hd;rw[hy]at hd;cases hd;rw[hyg]at hg;cases hg
      ·cases hx
     ·rw[Array.getElem?_setIfInBounds_ne e]at hx;exact h.u.tmps t x hx hg
   ·simp only[Frame.finish,List.mem_cons]at hx;rcases hx with rfl|hx
    ·exact hi
    ·exact h.todo x (by simp[hx])
theorem zO {fr:Frame} (h:US τ fs gs fr) (ch:List PanicEntry) (hc:(ch.map fun e=>({e with v:=mv τ e.v}:PanicEntry))=ch):US τ fs gs (fr.raise ch):=by
 have hok:=uO h.ok ch;obtain⟨fn,tmps,todo,defers,mode,kind,round⟩:=fr;have hm:=h.u.mode;cases mode with
 |panicking c2=>refine⟨hok,⟨h.u.tmps,h.u.defers,?_⟩,h.todo,h.fn,h.Rq⟩;simp only[gZ,FrameMode.panicking.injEq]at hm;simp[Frame.raise,gZ,hm,hc]
 |run=>exact⟨hok,⟨h.u.tmps,h.u.defers,by simp[Frame.raise,gZ,hc]⟩,h.todo,h.fn,h.Rq⟩
 |returning=>exact⟨hok,⟨h.u.tmps,h.u.defers,by simp[Frame.raise,gZ,hc]⟩,h.todo,h.fn,h.Rq⟩
theorem Gb (Hi:OkS P id fs) (B:yo P fs gs) {f:FuncId} (hf:fs f=true) {args:Array Value} (ha:args.map (mv τ)=args) (k:CallKind):US τ fs gs (Frame.enter P f args k):=by
 refine⟨oK Hi hf args k,⟨fun t v ht _=>?_,by simp[Frame.enter],rfl⟩,fun i hi=>?_,hf,rfl⟩
 ·have e:(Frame.enter P f args k).tmps.map (mv τ)=(Frame.enter P f args k).tmps:=by simp[Frame.enter,iQ,ha]
  have:((Frame.enter P f args k).tmps.map (mv τ))[t]? =some (mv τ v):=by rw[Array.getElem?_map,ht];rfl
  rw[e,ht]at this;simpa using this.symm
 ·obtain⟨fn,hfn,hb,_⟩:=B.body f hf;simp only[Frame.enter,hfn,Option.bind_some,List.mem_singleton]at hi;subst hi;cases hc:fn.body with
  |none=>rfl
  |some c=>exact hb c hc
theorem aae {fr:Frame} (h:US τ fs gs fr) (t:List Item) (m:FrameMode) (hm:m=fr.mode∨m= .returning) (ht:∀i∈t,xQ fs i=true) (htu:∀i∈t,vP (gs fr.fn) i=true):US τ fs gs {fr with todo:=t,mode:=m}:=by
 refine⟨⟨ht,h.ok.round,h.ok.defers⟩,⟨h.u.tmps,h.u.defers,?_⟩,htu,h.fn,h.Rq⟩;rcases hm with rfl|rfl
 ·exact h.u.mode
 ·rfl
theorem JV {V V':World} {d:Array Event} {fr:Frame} (h:tq τ V V' d):tq τ V V' (evs P fr d):=⟨h.clean,h.still,fun e he=>h.evs e (kF he)⟩
theorem QI (Hi:OkS P id fs) (hdf:fs lS=false) (hgo:P.follows .goNilFatal=true→fs fM=false) (H:OkG P τ) (hf:QC P τ fs) (B:yo P fs gs) {fr:Frame} {o:Oper} (h:US τ fs gs fr) (hop:fr.oper?=some o) (ho:vQ fs o.op=true) (hu:Vg (gs fr.fn) o=true) {l cs:List Frame} (hl:∀x∈l,US τ fs gs x) {V V':World}
 (hc:Clean τ V) (hn:NP V) {g:Goroutine} {es:Array Event} (hs:stepG.apply P true fr (l++cs) none (execOp fr.eval o) V= .go g V' es):
 ∃f' l' st,g=cz f' (l'++cs) st∧US τ fs gs f'∧(∀x∈l',US τ fs gs x)∧tq τ V V' es:=by
 have hid:=vZ Hi.toOkG Hi.calls (JU Hi fr) o ho;have kinds:=hid.J7 V #[] hn;have oks:=hid.oks V #[];have main:=acN H hf h.u o ho hu V #[] hc hn;rcases hr:(execOp fr.eval o).runT P V #[]with⟨r,ev⟩;rw[hr]at kinds main oks;cases r with
 |halt x V1=>
  rcases kinds x V1 rfl with hb|hg
  ·exfalso;cases x<;>first|exact hb.elim|skip
   ·obtain⟨o,y,e⟩:=w_ (P:=P) (fr:=fr) (cs:=l++cs) hb hr;rw[e]at hs;cases hs
   ·obtain⟨o,y,e⟩:=wZ (P:=P) (fr:=fr) (cs:=l++cs) hr;rw[e]at hs;cases hs
  ·cases x<;>first|exact hg.elim|skip
   ·rename_i v;obtain⟨d,e1,e2,_,e4⟩:=main (fun x=>x);simp only[Array.empty_append]at e1;subst e1;rw[qJ hr]at hs;cases hs;exact⟨_,l,_,rfl,zO h _ (by simp[e4 v V' rfl]),hl,JV e2⟩
   ·obtain⟨d,e1,e2,_,_⟩:=main (fun x=>x);rw[nS hr]at hs;cases hs;exact⟨_,l,_,rfl,h,hl,⟨e2.clean,e2.still,fun e he=>by have:=kF he;simp at this⟩⟩
 |ok n V1=>
  obtain⟨d,e1,e2,e3,_⟩:=main (fun x=>x);simp only[Array.empty_append]at e1;subst e1;obtain⟨b,hb⟩:=oks n V1 rfl;have hok:Vf fs n:=hb.2;have h3:=e3 n V1 rfl;cases n with
  |value v=>
   rw[qL hr]at hs;cases hs;refine⟨_,l,_,rfl,pg h v ?_,hl,JV e2⟩;rcases h3 with h3|⟨v',x,hv,hd,hx⟩
   ·simp only[za,Next.value.injEq]at h3;exact .inl h3
   ·exact .inr ⟨o,x,hop,hd,hx⟩
  |skip=>rw[tC hr]at hs;cases hs;exact⟨_,l,_,rfl,pg h undef (.inl iQ),hl,JV e2⟩
  |enter f args=>
   rw[qI h.ok hr]at hs;cases hs;rcases h3 with h3|⟨v',x,hv,_⟩
   ·simp only[za,Next.enter.injEq,true_and]at h3;exact⟨_,fr::l,_,rfl,Gb Hi B hok h3 _,fun x hx=>by rcases List.mem_cons.1 hx with rfl|hx;exact h;exact hl x hx,JV e2⟩
   ·cases hv
  |spawn dd=>
   have h2:fs fM=true:=hok
   rw[qK (by
    cases h:P.follows .goNilFatal with
    |false=>rfl
    |true=>rw[hgo h]at h2;cases h2) hr]at hs
   cases hs
  |defer dd=>have:=hok.2;rw[hdf]at this;cases this
  |_=>exact hok.elim
end Go.Ren
