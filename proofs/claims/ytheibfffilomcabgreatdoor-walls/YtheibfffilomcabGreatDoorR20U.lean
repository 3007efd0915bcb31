import Derived.Test.YtheibfffilomcabGreatDoorR17U
set_option linter.all false
set_option maxHeartbeats 1000000
namespace Go.Ren
set_option linter.unusedSimpArgs false
set_option linter.unusedVariables false
variable {P:Program} {ρ:Nat→Nat} {fs:FuncId→Bool}
def gZ (ρ:Nat→Nat):FrameMode→FrameMode
 | .run=>.run
 | .returning=>.returning
 | .panicking ch=>.panicking (ch.map fun e=>{e with v:=mv ρ e.v})
def dL (ρ:Nat→Nat) (fr:Frame):Frame:={fr with tmps:=fr.tmps.map (mv ρ),defers:=fr.defers.map (zU ρ),mode:=gZ ρ fr.mode}
def x8 (fs:FuncId→Bool):Code→Bool
 | .skip=>true
 | .region _ ops _=>ops.all fun o=>vQ fs o.op
 | .seq a b=>x8 fs a&&x8 fs b
 | .cond c a b=>gH c&&x8 fs a&&x8 fs b
 | .block _ b=>x8 fs b
 | .loop b=>x8 fs b
 | .scope b=>x8 fs b
 | .exit _=>true
 | .label _=>true
 | .goto _=>true
 | .ret=>true
 | .refuse _=>true
 | .rangeFunc .. =>false
def xQ (fs:FuncId→Bool):Item→Bool
 | .code c=>x8 fs c
 | .inBlock _=>true
 | .inLoop b=>x8 fs b
 | .inScope b=>x8 fs b
 | .inRegion ops _=>ops.all fun o=>vQ fs o.op
 |_=>false
structure dZ (fs:FuncId→Bool) (fr:Frame):Prop where
 todo:∀i∈fr.todo,xQ fs i=true
 round:fr.roundOf=none
 defers:∀d∈fr.defers,okD fs d
structure OkS (P:Program) (ρ:Nat→Nat) (fs:FuncId→Bool):Prop extends OkG P ρ where
 fix:∀b,b<7→ρ b=b
 calls:QC P ρ fs
 body:∀f,fs f=true→∃fn,P.funcs[f]? =some fn∧∀c,fn.body=some c→x8 fs c=true
theorem iQ:mv ρ undef=undef:=by simp[undef,mv]
theorem JU (H:OkS P ρ fs) (fr:Frame):M9 ρ fr.eval (dL ρ fr).eval:=by
 refine⟨fun x hx=>?_,fun f=>rfl⟩;cases x with
 |tmp t=>
  simp only[Frame.eval,dL,Array.getD_eq_getD_getElem?,Array.getElem?_map];cases fr.tmps[t]? with
  |none=>simp[iQ]
  |some v=>rfl
 |const v=>exact(vR hx).symm
 |global g=>
  have:g<7:=by simpa[gH]using hx
  simp[Frame.eval,mv,bW,H.fix g this]
 |func f=>simp[Frame.eval,mv]
theorem Ji (ops:Array Oper) (tmps:Array Value) (j:Nat):yielded ops (tmps.map (mv ρ)) j=yielded ops tmps j:=by
 unfold yielded;cases (ops[j]?).bind (·.dst)with
 |none=>rfl
 |some d=>
  simp only[Option.bind_some,Array.getElem?_map];cases tmps[d]? with
  |none=>rfl
  |some v=>cases v<;>simp[mv]
def seenStep (P:Program) (x:Bool × Array Event) (e:Event):Bool × Array Event:=
 match e.loc with
 | .mark (.extern f)=>((P.funcs[f]?).any (·.norace),x.2)
 |_=>(x.1,if x.1&& !e.sync then x.2 else x.2.push e)
theorem seen_eq (fn:FuncId) (es:Array Event):Go.seen P fn es=(es.foldl (seenStep P) ((P.funcs[fn]?).any (·.norace),#[])).2:=rfl
theorem FE (q:Bool) (k:Array Event) (e:Event):seenStep P (q,k.map (lK ρ)) (lK ρ e)=((seenStep P (q,k) e).1,(seenStep P (q,k) e).2.map (lK ρ)):=by
 obtain⟨loc,wr,sy⟩:=e;have push:∀e:Event,(if q&& !e.sync then k.map (lK ρ)else(k.map (lK ρ)).push (lK ρ e))=(if q&& !e.sync then k else k.push e).map (lK ρ):=by intro e;split<;>simp
 have main:∀l:Loc,(∀f,l≠ .mark (.extern f))→seenStep P (q,k.map (lK ρ)) (lK ρ ⟨l,wr,sy⟩)=((seenStep P (q,k) ⟨l,wr,sy⟩).1,(seenStep P (q,k) ⟨l,wr,sy⟩).2.map (lK ρ)):=by
  intro l hl;have e1:seenStep P (q,k) ⟨l,wr,sy⟩=(q,if q&& !sy then k else k.push ⟨l,wr,sy⟩):=by
   unfold seenStep;split
   ·rename_i f h;exact absurd h (hl f)
   ·rfl
  have e2:seenStep P (q,k.map (lK ρ)) (lK ρ ⟨l,wr,sy⟩)=(q,if q&& !sy then k.map (lK ρ)else(k.map (lK ρ)).push (lK ρ ⟨l,wr,sy⟩)):=by
   unfold seenStep;split
   ·rename_i f h;cases l with
    |mark m=>cases m<;>first|exact absurd rfl (hl _)|(simp[lK,iq,We]at h)
    |_=>simp[lK,iq]at h
   ·rfl
  rw[e1,e2];exact Prod.ext rfl (push ⟨l,wr,sy⟩)
 by_cases h:∃f,loc= .mark (.extern f)
 ·obtain⟨f,rfl⟩:=h;rfl
 ·exact main loc fun f e=>h ⟨f,e⟩
theorem oZ (fn:FuncId) (es:Array Event):Go.seen P fn (es.map (lK ρ))=(Go.seen P fn es).map (lK ρ):=by
 have key:∀(l:List Event) (q:Bool) (k:Array Event),(l.map (lK ρ)).foldl (seenStep P) (q,k.map (lK ρ))=((l.foldl (seenStep P) (q,k)).1,(l.foldl (seenStep P) (q,k)).2.map (lK ρ)):=by
  intro l;induction l with
  |nil=>intro q k;rfl
  |cons e l ih=>intro q k;simp only[List.map_cons,List.foldl_cons];rw[FE];exact ih _ _
 have:=key es.toList ((P.funcs[fn]?).any (·.norace)) #[];simp only[Array.map_empty]at this;rw[seen_eq,seen_eq, ←Array.foldl_toList, ←Array.foldl_toList,Array.toList_map,this]
theorem vJ (fr:Frame) (v:Value) (h:∀i∈fr.todo,xQ fs i=true):(dL ρ fr).finish (mv ρ v)=dL ρ (fr.finish v):=by
 obtain⟨fn,tmps,todo,defers,mode,kind,round⟩:=fr;cases todo with
 |nil=>rfl
 |cons i k=>
  have:=h i (by simp);cases i<;>first|rfl|exact Bool.noConfusion this|skip
  rename_i ops l;cases l with
  |nil=>rfl
  |cons j l=>simp only[Frame.finish,dL];cases (ops[j]?).bind (·.dst)<;>simp
theorem j_ {fr:Frame} (h:dZ fs fr) (v:Value):dZ fs (fr.finish v):=by
 obtain⟨fn,tmps,todo,defers,mode,kind,round⟩:=fr;cases todo with
 |nil=>exact h
 |cons i k=>
  have:=h.todo i (by simp);cases i<;>first|exact h|exact Bool.noConfusion this|skip
  rename_i ops l;cases l with
  |nil=>exact h
  |cons j l=>
   refine⟨fun x hx=>?_,h.round,h.defers⟩;simp only[Frame.finish,List.mem_cons]at hx;rcases hx with rfl|hx
   ·exact this
   ·exact h.todo x (by simp[hx])
theorem yO (f:FuncId) (args:Array Value) (k:CallKind):Frame.enter P f (args.map (mv ρ)) k=dL ρ (Frame.enter P f args k):=by simp[Frame.enter,dL,iQ,gZ]
theorem oK (H:OkS P ρ fs) {f:FuncId} (hf:fs f=true) (args:Array Value) (k:CallKind):dZ fs (Frame.enter P f args k):=by
 refine⟨fun i hi=>?_,rfl,fun d hd=>by simp[Frame.enter]at hd⟩;obtain⟨fn,hfn,hb⟩:=H.body f hf;simp only[Frame.enter,hfn,Option.bind_some,List.mem_singleton]at hi;subst hi;cases hc:fn.body with
 |none=>rfl
 |some c=>exact hb c hc
end Go.Ren
namespace Go.Ren
set_option linter.unusedSimpArgs false
set_option linter.unusedVariables false
variable {P:Program} {ρ:Nat→Nat} {fs:FuncId→Bool}
def NP (V:World):Prop:=∀(b:Nat) (c:Array Value) (t:TypeId),V.heap[b]? ≠some (Obj.pending c t)
theorem NP.set {V:World} (h:NP V) (b:Nat) (o:Obj) (hp:∀c t,o≠ .pending c t):NP {V with heap:=V.heap.setIfInBounds b o}:=by
 intro x c t hx;by_cases e:x=b
 ·subst e;simp only[Array.getElem?_setIfInBounds_self]at hx;split at hx
  ·exact hp c t (by simpa using hx)
  ·cases hx
 ·simp only[Array.getElem?_setIfInBounds_ne (fun e'=>e e'.symm)]at hx;exact h x c t hx
theorem NP.modify {V:World} (h:NP V) (b:Nat) (f:Obj→Obj) (hp:∀o c t,f o= .pending c t→∃c' t',o= .pending c' t'):NP {V with heap:=V.heap.modify b f}:=by
 rw[modify_eq];cases hb:V.heap[b]? with
 |none=>exact h
 |some o=>refine h.set b (f o) fun c t e=>?_;obtain⟨c',t',rfl⟩:=hp o c t e;exact h b c' t' hb
theorem NP.setCell {V:World} (h:NP V) (a:Addr) (v:Value):NP (V.setCell a v):=h.modify _ _ fun o c t e=>by cases o<;>simp at e ⊢
theorem NP.freeze {V:World} (h:NP V) (a:Addr) (n:Nat):NP (V.freeze a n):=by
 unfold World.freeze;split
 ·exact h
 ·exact h.modify _ _ fun o c t e=>by cases o<;>simp at e ⊢
theorem NP.push {V:World} (h:NP V) (o:Obj) (hp:∀c t,o≠ .pending c t):NP {V with heap:=V.heap.push o}:=by
 intro x c t hx;simp only[Array.getElem?_push]at hx;split at hx
 ·exact hp c t (by simpa using hx)
 ·exact h x c t hx
theorem NP.noCell {V:World} (h:NP V) (a:Addr) (what:String):Ku (V.noCell a what):=by
 unfold World.noCell;split
 ·rename_i c t hb;exact absurd hb (h _ _ _)
 ·trivial
 ·trivial
theorem NP.farLoad {V:World} (h:NP V) {a:Addr} {b:Bool} {e:Halt} (hf:V.farLoad P a b= .error e):Ku e:=by
 unfold World.farLoad at hf;split at hf
 ·split at hf
  ·cases hf
  ·cases hf;trivial
 ·cases hf;exact h.noCell _ _
theorem NP.Bc {V:World} (h:NP V) {a:Addr} {v:Value} {b:Bool} {e:Halt} (hf:V.farStore P a v b= .error e):Ku e:=by
 unfold World.farStore at hf;split at hf
 ·split at hf
  ·cases hf
  ·cases hf;trivial
 ·cases hf;exact h.noCell _ _
theorem NP.farStore {V V':World} (h:NP V) {a:Addr} {v:Value} {b:Bool} {l:List Addr} (hf:V.farStore P a v b= .ok (V',l)):NP V':=by
 unfold World.farStore at hf;split at hf
 ·split at hf
  ·rename_i r hr;cases hf;unfold World.viewStore at hr;simp only[throwThe,MonadExceptOf.throw,MonadExcept.throw,bind,Except.bind,pure,Except.pure]at hr
   repeat' split at hr
   all_goals first|(cases hr;done)|skip
   all_goals (cases hr;exact h.set _ _ (by simp))
  ·cases hf
 ·cases hf
theorem SR.J7 {α β:Type} {Q:α→β→Prop} {s:Sem α} {s':Sem β} (h:SR P ρ Q s s'):∀(V:World) (es:Array Event),NP V→∀x w,(s.runT P V es).1= .halt x w→Ku x∨M_ x:=by
 induction h with
 |pure h=>intro V es hn x w hx;cases hx
 | @load m a k k' _ ih=>
   intro V es hn x w hx;simp only[Sem.runT]at hx;split at hx
   ·exact ih _ _ _ hn _ _ hx
   ·split at hx
    ·exact ih _ _ _ hn _ _ hx
    ·rename_i hf;cases hx;exact .inl (hn.farLoad hf)
 | @store m a v k k' _ ih=>
   intro V es hn x w hx;cases hv:one v with
   |false=>rw[gJ hv]at hx;cases hx;exact .inl trivial
   |true=>
    rw[jw hv]at hx;split at hx
    ·split at hx
     ·cases hx;exact .inl trivial
     ·exact ih _ _ (hn.setCell _ _) _ _ hx
    ·split at hx
     ·rename_i hf;exact ih _ _ (hn.farStore hf) _ _ hx
     ·rename_i hf;cases hx;exact .inl (hn.Bc hf)
 |new hp _ ih=>intro V es hn x w hx;exact ih _ _ _ (hn.push _ hp) _ _ hx
 |shape _ ih=>intro V es hn x w hx;exact ih _ _ _ hn _ _ hx
 |freeze _ ih=>intro V es hn x w hx;exact ih _ _ (hn.freeze _ _) _ _ hx
 |frozen _ ih=>intro V es hn x w hx;exact ih _ _ _ hn _ _ hx
 |getObj _ ih=>
  intro V es hn x w hx;simp only[Sem.runT]at hx;split at hx
  ·cases hx;exact .inl trivial
  ·exact ih _ _ _ hn _ _ hx
  ·cases hx;exact .inl trivial
 |setObj hp _ ih=>
  intro V es hn x w hx;simp only[Sem.runT]at hx;split at hx
  ·cases hx;exact .inl trivial
  ·exact ih _ _ (hn.set _ _ hp) _ _ hx
  ·cases hx;exact .inl trivial
 |env hp _ ih=>intro V es hn x w hx;simp only[Sem.runT,Dm]at hx;exact ih _ _ _ hn _ _ hx
 |choose _ ih=>
  intro V es hn x w hx;simp only[Sem.runT]at hx;split at hx
  ·exact ih _ _ _ hn _ _ hx
  ·exact ih _ {V with drawn:=V.drawn+1} _ hn _ _ hx
 |program _ ih=>intro V es hn x w hx;exact ih _ _ hn _ _ hx
 |mark _ _ ih=>intro V es hn x w hx;exact ih _ _ hn _ _ hx
 |halt hh=>intro V es hn x w hx;cases hx;exact .inr hh
 |dead hh=>intro V es hn x w hx;cases hx;exact .inl hh
theorem SR.oks {α β:Type} {Q:α→β→Prop} {s:Sem α} {s':Sem β} (h:SR P ρ Q s s'):∀(V:World) (es:Array Event) a w,(s.runT P V es).1= .ok a w→∃b,Q a b:=by
 induction h with
 |pure h=>intro V es a w hx;cases hx;exact⟨_,h⟩
 | @load m a k k' _ ih=>
   intro V es x w hx;simp only[Sem.runT]at hx;split at hx
   ·exact ih _ _ _ _ _ hx
   ·split at hx
    ·exact ih _ _ _ _ _ hx
    ·cases hx
 | @store m a v k k' _ ih=>
   intro V es x w hx;cases hv:one v with
   |false=>rw[gJ hv]at hx;cases hx
   |true=>
    rw[jw hv]at hx;split at hx
    ·split at hx
     ·cases hx
     ·exact ih _ _ _ _ hx
    ·split at hx
     ·exact ih _ _ _ _ hx
     ·cases hx
 |new hp _ ih=>intro V es x w hx;exact ih _ _ _ _ _ hx
 |shape _ ih=>intro V es x w hx;exact ih _ _ _ _ _ hx
 |freeze _ ih=>intro V es x w hx;exact ih _ _ _ _ hx
 |frozen _ ih=>intro V es x w hx;exact ih _ _ _ _ _ hx
 |getObj _ ih=>
  intro V es x w hx;simp only[Sem.runT]at hx;split at hx
  ·cases hx
  ·exact ih _ _ _ _ _ hx
  ·cases hx
 |setObj hp _ ih=>
  intro V es x w hx;simp only[Sem.runT]at hx;split at hx
  ·cases hx
  ·exact ih _ _ _ _ hx
  ·cases hx
 |env hp _ ih=>intro V es x w hx;exact ih _ _ _ _ _ hx
 |choose _ ih=>
  intro V es x w hx;simp only[Sem.runT]at hx;split at hx
  ·exact ih _ _ _ _ _ hx
  ·exact ih _ _ _ _ _ hx
 |program _ ih=>intro V es x w hx;exact ih _ _ _ _ hx
 |mark _ _ ih=>intro V es x w hx;exact ih _ _ _ _ hx
 |halt hh=>intro V es x w hx;cases hx
 |dead hh=>intro V es x w hx;cases hx
theorem Ib {d:Deferred} (h:okD fs d):okD fs (zU ρ d):=by
 obtain⟨t,a⟩:=d;cases t with
 |fn f c=>cases f with
  |func g=>exact h
  |_=>exact False.elim h
 |_=>exact False.elim h
theorem Rt {fr:Frame} (h:dZ fs fr):dZ fs (dL ρ fr):=by refine⟨h.todo,h.round,fun d hd=>?_⟩;simp only[dL,List.mem_map]at hd;obtain⟨d0,hd0,rfl⟩:=hd;exact Ib (h.defers d0 hd0)
end Go.Ren
namespace Go.Ren
set_option linter.unusedSimpArgs false
set_option linter.unusedVariables false
variable {P:Program} {ρ:Nat→Nat} {fs:FuncId→Bool}
def cz (f:Frame) (cs:List Frame) (st:GoStatus):Goroutine:={frame:=f,callers:=cs,status:=st,dying:=none}
def mP:GStep→World
 | .go _ w _=>w
 | .comm _ _ _ _ w _=>w
 | .spawn _ _ w _=>w
 | .count _ w _=>w
 | .timer _ _ w _=>w
 | .alone _ _ w _=>w
 | .newcoro _ _ _ w _=>w
 | .coroswitch _ _ _ w _=>w
 | .collect _ w _=>w
 | .watch _ w _=>w
 | .ended _ w _=>w
def xZ (P:Program) (d:Deferred):Goroutine:=cz {(default:Frame)with fn:=P.funcs.size,defers:=[d],mode:=.panicking [goexitEntry]} [] .running
inductive gB (P:Program) (ρ:Nat→Nat) (fs:FuncId→Bool) (cs cs':List Frame) (V W:World):GStep→GStep→Prop
 |go {f:Frame} {l:List Frame} {st:GoStatus} {V1 W1:World} {es:Array Event}:(st= .running∨st= .blocked)→dZ fs f→(∀x∈l,dZ fs x)→Out ρ V W V1 W1→
   (∀e∈es,mH V1.heap.size e.loc∨(e.loc= .output∧∃ch,f.mode= .panicking ch))→
   gB P ρ fs cs cs' V W (.go (cz f (l++cs) st) V1 es) (.go (cz (dL ρ f) (l.map (dL ρ)++cs') st) W1 (es.map (lK ρ)))
 |spawn {f:Frame} {l:List Frame} {d:Deferred} {V1 W1:World} {es:Array Event}:fs fM=true→dZ fs f→(∀x∈l,dZ fs x)→Out ρ V W V1 W1→(∀e∈es,mH V1.heap.size e.loc)→
   gB P ρ fs cs cs' V W (.spawn (cz f (l++cs) .running) (xZ P d) V1 es) (.spawn (cz (dL ρ f) (l.map (dL ρ)++cs') .running) (xZ P (zU ρ d)) W1 (es.map (lK ρ)))
 |bad {o:Outcome} {V1:World} {es:Array Event} {y:GStep}:gB P ρ fs cs cs' V W (.ended o V1 es) y
def Align (ρ:Nat→Nat) (V W V1:World):Prop:=
 (∀i,V.heap.size+i<V1.heap.size→ρ (V.heap.size+i)=W.heap.size+i)∧(∀i,V.drawn+i<V1.drawn→V.tape (V.drawn+i)=W.tape (W.drawn+i))
theorem mem_seen {fn:FuncId} {es:Array Event} {e:Event} (h:e∈Go.seen P fn es):e∈es:=by
 rw[seen_eq, ←Array.foldl_toList]at h;have key:∀(l:List Event) (x:Bool × Array Event),e∈(l.foldl (seenStep P) x).2→e∈x.2∨e∈l:=by
  intro l;induction l with
  |nil=>intro x hx;exact .inl hx
  |cons a l ih=>
   intro x hx;rcases ih _ hx with h1|h1
   ·unfold seenStep at h1;split at h1
    ·exact .inl h1
    ·simp only at h1;split at h1
     ·exact .inl h1
     ·rcases Array.mem_push.1 h1 with h2|h2
      ·exact .inl h2
      ·exact .inr (by simp[h2])
   ·exact .inr (by simp[h1])
 rcases key es.toList _ h with h1|h1
 ·simp at h1
 ·simpa using h1
theorem zq (fr:Frame) (vs:List PanicEntry):(dL ρ fr).raise (vs.map fun e=>{e with v:=mv ρ e.v})=dL ρ (fr.raise vs):=by obtain⟨fn,tmps,todo,defers,mode,kind,round⟩:=fr;cases mode<;>simp[Frame.raise,dL,gZ]
theorem uO {fr:Frame} (h:dZ fs fr) (vs:List PanicEntry):dZ fs (fr.raise vs):=by obtain⟨fn,tmps,todo,defers,mode,kind,round⟩:=fr;cases mode<;>exact⟨h.todo,h.round,h.defers⟩
theorem raise_mode (fr:Frame) (vs:List PanicEntry):∃ch,(fr.raise vs).mode= .panicking ch:=by obtain⟨fn,tmps,todo,defers,mode,kind,round⟩:=fr;cases mode<;>exact⟨_,rfl⟩
def evs (P:Program) (fr:Frame) (es:Array Event):Array Event:=Go.seen P fr.fn (if fr.kind== .early then #[]else es)
theorem tH (fr:Frame) (es:Array Event):evs P (dL ρ fr) (es.map (lK ρ))=(evs P fr es).map (lK ρ):=by unfold evs;rw[show(dL ρ fr).kind=fr.kind from rfl,show(dL ρ fr).fn=fr.fn from rfl, ←oZ];split<;>simp
theorem kF {fr:Frame} {es:Array Event} {e:Event} (h:e∈evs P fr es):e∈es:=by
 have:=mem_seen h;split at this
 ·simp at this
 ·exact this
section
variable {fr:Frame} {cs:List Frame} {s:Sem Next} {V V1:World} {es:Array Event}
theorem qL {v:Value} (h:s.runT P V #[]=(.ok (.value v) V1,es)):stepG.apply P true fr cs none s V= .go (cz (fr.finish v) cs .running) V1 (evs P fr es):=by simp[stepG.apply,h,GStep.after,evs,cz]
theorem tC (h:s.runT P V #[]=(.ok .skip V1,es)):stepG.apply P true fr cs none s V= .go (cz (fr.finish undef) cs .running) V1 (evs P fr es):=by simp[stepG.apply,h,GStep.after,evs,cz]
theorem qI (hok:dZ fs fr) {f:FuncId} {args:Array Value} (h:s.runT P V #[]=(.ok (.enter f args) V1,es)):
 stepG.apply P true fr cs none s V= .go (cz (Frame.enter P f args .normal) (fr::cs) .running) V1 (evs P fr es):=by
 obtain⟨fn,tmps,todo,defers,mode,kind,round⟩:=fr;cases todo with
 |nil=>simp[stepG.apply,h,GStep.after,evs,cz]
 |cons i k=>have:=hok.todo i (by simp);cases i<;>first|exact Bool.noConfusion this|simp[stepG.apply,h,GStep.after,evs,cz]
theorem wY {d:Deferred} (h:s.runT P V #[]=(.ok (.defer d) V1,es)):stepG.apply P true fr cs none s V= .go (cz ({fr with defers:=d::fr.defers}.finish undef) cs .running) V1 (evs P fr es):=by simp[stepG.apply,h,GStep.after,evs,cz]
theorem qK (hg:P.follows .goNilFatal=false) {d:Deferred} (h:s.runT P V #[]=(.ok (.spawn d) V1,es)):stepG.apply P true fr cs none s V= .spawn (cz (fr.finish undef) cs .running) (xZ P d) V1 (evs P fr es):=by simp[stepG.apply,h,GStep.after,evs,cz,xZ,hg]
theorem qJ {v:Value} (h:s.runT P V #[]=(.halt (.panic v) V1,es)):stepG.apply P true fr cs none s V= .go (cz (fr.raise [{v,recovered:=false}]) cs .running) V1 (evs P fr es):=by simp[stepG.apply,h,GStep.after,evs,cz]
theorem nS (h:s.runT P V #[]=(.halt .blocked V1,es)):stepG.apply P true fr cs none s V= .go (cz fr cs .blocked) V1 (evs P fr #[]):=by simp[stepG.apply,h,GStep.after,evs,cz]
theorem wZ {w:String} (h:s.runT P V #[]=(.halt (.stuck w) V1,es)):∃o x,stepG.apply P true fr cs none s V= .ended o V1 x:=by simp[stepG.apply,h,GStep.after]
theorem w_ {u:Unsupported} (hu:Ku (.unsupported u)) (h:s.runT P V #[]=(.halt (.unsupported u) V1,es)):∃o x,stepG.apply P true fr cs none s V= .ended o V1 x:=by cases u<;>first|exact hu.elim|simp[stepG.apply,h,GStep.after]
end
theorem pM (fr:Frame) (h:∀i∈fr.todo,xQ fs i=true):(dL ρ fr).finish undef=dL ρ (fr.finish undef):=by have:=vJ (ρ:=ρ) fr undef h;rwa[iQ]at this
theorem QH (H:OkS P ρ fs) {s s':Sem Next} (hs:SN P ρ fs s s') {fr:Frame} (hfr:dZ fs fr) {l:List Frame} (hl:∀x∈l,dZ fs x) {cs cs':List Frame} {V W:World} (hw:WR ρ V W)
 (ha:Align ρ V W (mP (stepG.apply P true fr (l++cs) none s V))) (hgo:P.follows .goNilFatal=true→fs fM=false):
 gB P ρ fs cs cs' V W (stepG.apply P true fr (l++cs) none s V) (stepG.apply P true (dL ρ fr) (l.map (dL ρ)++cs') none s' W):=by
 have run:=hs.runT H.inj V W #[] #[] hw;have kinds:=hs.J7 V #[] hw.kg;rcases hr:s.runT P V #[]with⟨r,es⟩;rcases hr':s'.runT P W #[]with⟨r',es'⟩;rw[hr]at run kinds;rw[hr']at run;have Ub:∀{d:Array Event} {V1:World} {r:Result Next},(∀e∈d,mH V1.heap.size e.loc∨(e.loc= .output∧CL r))→¬CL r→∀e∈evs P fr d,mH V1.heap.size e.loc:=
  fun h hn e he=>(h e (kF he)).resolve_right fun x=>hn x.2
 cases r with
 |halt h V1=>
  rcases kinds h V1 rfl with hb|hg
  ·cases h<;>first|exact hb.elim|skip
   ·obtain⟨o,x,e⟩:=w_ (P:=P) (fr:=fr) (cs:=l++cs) hb hr;rw[e];exact .bad
   ·obtain⟨o,x,e⟩:=wZ (P:=P) (fr:=fr) (cs:=l++cs) hr;rw[e];exact .bad
  ·cases h<;>first|exact hg.elim|skip
   ·rename_i v;rw[qJ hr]at ha ⊢;obtain⟨⟨d,e1,e2,e3⟩,res,o⟩:=run ha.1 ha.2 (fun x=>x);simp only[Array.empty_append]at e1 e2;cases r' with
    |ok b W1=>exact res.elim
    |halt h' W1=>obtain⟨rfl,_⟩:=res;rw[e1]at*;rw[e2]at hr';rw[qJ hr',tH];have rm:=zq (ρ:=ρ) fr [{v:=v,recovered:=false}];simp only[List.map_cons,List.map_nil]at rm;rw[rm];exact .go (.inl rfl) (uO hfr _) hl o fun e he=>(e3 e (kF he)).imp id fun x=>⟨x.1,raise_mode _ _⟩
   ·rw[nS hr]at ha ⊢;obtain⟨⟨d,e1,e2,e3⟩,res,o⟩:=run ha.1 ha.2 (fun x=>x);cases r' with
    |ok b W1=>exact res.elim
    |halt h' W1=>
     obtain⟨rfl,_⟩:=res;rw[nS hr'];have e4:evs P (dL ρ fr) #[]=(evs P fr #[]).map (lK ρ):=by have:=tH (P:=P) (ρ:=ρ) fr #[];simpa using this
     rw[e4];exact .go (.inr rfl) hfr hl o fun e he=>by have:=kF he;simp at this
 |ok n V1=>
  have nb:¬GM (Result.ok n V1):=fun x=>x;have np:¬CL (Result.ok n V1):=fun x=>x;have core:Align ρ V W V1→∃W1 d,es=d∧es'=d.map (lK ρ)∧(∀e∈d,mH V1.heap.size e.loc)∧r'= .ok (za ρ n) W1∧Vf fs n∧Out ρ V W V1 W1:=by
   intro h;obtain⟨⟨d,e1,e2,e3⟩,res,o⟩:=run h.1 h.2 nb;simp only[Array.empty_append]at e1 e2;cases r' with
   |halt h' W1=>exact res.elim
   |ok n' W1=>exact⟨W1,d,e1,e2,fun e he=>(e3 e he).resolve_right fun x=>np x.2,by rw[res.1],res.2,o⟩
  cases n with
  |value v=>rw[qL hr]at ha ⊢;obtain⟨W1,d,rfl,rfl,e3,rfl,_,o⟩:=core ha;rw[qL hr',tH,vJ fr v hfr.todo];exact .go (.inl rfl) (j_ hfr _) hl o fun e he=>.inl (e3 e (kF he))
  |skip=>rw[tC hr]at ha ⊢;obtain⟨W1,d,rfl,rfl,e3,rfl,_,o⟩:=core ha;rw[tC hr',tH,pM fr hfr.todo];exact .go (.inl rfl) (j_ hfr _) hl o fun e he=>.inl (e3 e (kF he))
  |enter f args=>
   rw[qI hfr hr]at ha ⊢;obtain⟨W1,d,rfl,rfl,e3,rfl,hok,o⟩:=core ha;simp only[za]at hr';rw[qI (Rt hfr) hr',tH,yO];have:=gB.go (P:=P) (ρ:=ρ) (fs:=fs) (cs:=cs) (cs':=cs') (V:=V) (W:=W) (f:=Frame.enter P f args .normal) (l:=fr::l) (st:=.running) (es:=evs P fr es) (.inl rfl) (oK H hok args .normal)
    (fun x hx=>by rcases List.mem_cons.1 hx with rfl|hx;exact hfr;exact hl x hx) o (fun e he=>.inl (e3 e (kF he)))
   simpa using this
  |defer d=>rw[wY hr]at ha ⊢;obtain⟨W1,dd,rfl,rfl,e3,rfl,hok,o⟩:=core ha;simp only[za]at hr';rw[wY hr',tH];have hfr2:dZ fs {fr with defers:=d::fr.defers}:=⟨hfr.todo,hfr.round,fun x hx=>by rcases List.mem_cons.1 hx with rfl|hx;exact hok.1;exact hfr.defers x hx⟩;have:=pM (ρ:=ρ) (fs:=fs) {fr with defers:=d::fr.defers} hfr.todo;rw[show({dL ρ fr with defers:=zU ρ d::(dL ρ fr).defers}:Frame)=dL ρ {fr with defers:=d::fr.defers} from rfl,this];exact .go (.inl rfl) (j_ hfr2 _) hl o fun e he=>.inl (e3 e (kF he))
  |spawn d=>
   have hgo:P.follows .goNilFatal=false:=by
    obtain⟨b,hb⟩:=hs.oks V #[] _ _ (by rw[hr]);have h2:fs fM=true:=hb.2;cases h:P.follows .goNilFatal with
    |false=>rfl
    |true=>rw[hgo h]at h2;cases h2
   rw[qK hgo hr]at ha ⊢;obtain⟨W1,dd,rfl,rfl,e3,rfl,hok,o⟩:=core ha;simp only[za]at hr';rw[qK hgo hr',tH,pM fr hfr.todo];exact .spawn hok (j_ hfr _) hl o fun e he=>e3 e (kF he)
  |_=>obtain⟨b,hb⟩:=hs.oks V #[] _ _ (by rw[hr]);exact hb.2.elim
end Go.Ren
namespace Go.Ren
set_option linter.unusedSimpArgs false
set_option linter.unusedVariables false
variable {P:Program} {ρ:Nat→Nat} {fs:FuncId→Bool} {cs cs' l:List Frame} {V W:World}
theorem BJ {f:Frame} (hw:WR ρ V W) (hf:dZ fs f) (hl:∀x∈l,dZ fs x):
 gB P ρ fs cs cs' V W (.go (cz f (l++cs) .running) V) (.go (cz (dL ρ f) (l.map (dL ρ)++cs') .running) W):=by
 have:=gB.go (P:=P) (ρ:=ρ) (fs:=fs) (cs:=cs) (cs':=cs') (V:=V) (W:=W) (f:=f) (l:=l) (st:=.running) (es:=#[]) (.inl rfl) hf hl (.refl hw) (by simp);simpa using this
theorem Bb {id:Nat}:∀{k k':List Item},(∀i∈k,xQ fs i=true)→exitTo id k=some k'→∀i∈k',xQ fs i=true:=by
 intro k;induction k with
 |nil=>intro k' h e;simp[exitTo]at e
 |cons x k ih=>
  intro k' h e;have hk:∀i∈k,xQ fs i=true:=fun i hi=>h i (by simp[hi]);cases x<;>simp only[exitTo]at e<;>try exact ih hk e
  split at e
  ·cases e;exact hk
  ·exact ih hk e
theorem Ct {n:Nat}:∀{c c':Code},x8 fs c=true→findLabel c n=some c'→x8 fs c'=true:=by
 intro c;induction c with
 |seq a b iha ihb=>
  intro c' h e;simp only[x8,Bool.and_eq_true]at h;simp only[findLabel]at e;split at e
  ·rename_i r hr;cases e;simp only[x8,Bool.and_eq_true];exact⟨iha h.1 hr,h.2⟩
  ·exact ihb h.2 e
 |label m=>
  intro c' h e;simp only[findLabel]at e;split at e
  ·cases e;rfl
  ·cases e
 |_=>intro c' h e;simp[findLabel]at e
theorem Bf {n:Nat}:∀{k k':List Item},(∀i∈k,xQ fs i=true)→gotoIn n k=some k'→∀i∈k',xQ fs i=true:=by
 intro k;induction k with
 |nil=>intro k' h e;simp[gotoIn]at e
 |cons x k ih=>
  intro k' h e;have hk:∀i∈k,xQ fs i=true:=fun i hi=>h i (by simp[hi]);cases x<;>simp only[gotoIn]at e<;>try exact ih hk e
  rename_i body;have hb:x8 fs body=true:=h (.inScope body) (by simp);split at e
  ·rename_i r hr;cases e;intro i hi;simp only[List.mem_cons]at hi;rcases hi with rfl|rfl|hi
   ·exact Ct hb hr
   ·exact hb
   ·exact hk i hi
  ·exact ih hk e
theorem Uc (H:OkS P ρ fs) (hgo:P.follows .goNilFatal=true→fs fM=false) {main main':Bool} {fr:Frame} (hfr:dZ fs fr) (hl:∀x∈l,dZ fs x) (hw:WR ρ V W)
 (ha:Align ρ V W (mP (stepG.exec P main true fr (l++cs) none V))):
 gB P ρ fs cs cs' V W (stepG.exec P main true fr (l++cs) none V) (stepG.exec P main' true (dL ρ fr) (l.map (dL ρ)++cs') none W):=by
 have hev:=JU H fr;obtain⟨fn,tmps,todo,defers,mode,kind,round⟩:=fr;have Hq:round=none:=hfr.round;subst Hq;have go:∀(t:List Item) (m:FrameMode),(∀i∈t,xQ fs i=true)→gB P ρ fs cs cs' V W (.go (cz {fn:=fn,tmps:=tmps,todo:=t,defers:=defers,mode:=m,kind:=kind,roundOf:=none} (l++cs) .running) V)
  (.go (cz (dL ρ {fn:=fn,tmps:=tmps,todo:=t,defers:=defers,mode:=m,kind:=kind,roundOf:=none}) (l.map (dL ρ)++cs') .running) W):=
  fun t m ht=>BJ hw ⟨ht,rfl,hfr.defers⟩ hl
 cases todo with
 |nil=>exact go [] .returning (by simp)
 |cons i k=>
  have hi:=hfr.todo i (by simp);have hk:∀i∈k,xQ fs i=true:=fun x hx=>hfr.todo x (by simp[hx]);have two:∀{a b:Item},xQ fs a=true→xQ fs b=true→∀i∈a::b::k,xQ fs i=true:=by
   intro a b h1 h2 i hi;simp only[List.mem_cons]at hi;rcases hi with rfl|rfl|hi
   ·exact h1
   ·exact h2
   ·exact hk i hi
  cases i with
  |inBlock id=>exact go k mode hk
  |inScope b=>exact go k mode hk
  |inLoop b=>exact go (.code b:: .inLoop b::k) mode (two hi hi)
  |inRegion ops todo=>
   cases todo with
   |nil=>exact go k mode hk
   |cons j rest=>
    have hwant:((ops[j]?).map (Region.wanted · (yielded ops (tmps.map (mv ρ))))).getD false=((ops[j]?).map (Region.wanted · (yielded ops tmps))).getD false:=by rw[show yielded ops (tmps.map (mv ρ))=yielded ops tmps from funext fun x=>Ji ops tmps x]
    cases hq:((ops[j]?).map (Region.wanted · (yielded ops tmps))).getD false with
    |false=>
     rw[hq]at hwant;have e1:stepG.exec P main true {fn:=fn,tmps:=tmps,todo:=.inRegion ops (j::rest)::k,defers:=defers,mode:=mode,kind:=kind} (l++cs) none V= .go (cz (({fn:=fn,tmps:=tmps,todo:=.inRegion ops (j::rest)::k,defers:=defers,mode:=mode,kind:=kind}:Frame).finish undef) (l++cs) .running) V:=by simp only[stepG.exec,hq];rfl
     have e2:stepG.exec P main' true (dL ρ {fn:=fn,tmps:=tmps,todo:=.inRegion ops (j::rest)::k,defers:=defers,mode:=mode,kind:=kind}) (l.map (dL ρ)++cs') none W= .go (cz ((dL ρ {fn:=fn,tmps:=tmps,todo:=.inRegion ops (j::rest)::k,defers:=defers,mode:=mode,kind:=kind}).finish undef) (l.map (dL ρ)++cs') .running) W:=by simp only[stepG.exec,dL,hwant];rfl
     rw[e1,e2,pM _ hfr.todo];exact BJ hw (j_ hfr _) hl
    |true=>
     rw[hq]at hwant;cases ho:ops[j]? with
     |none=>rw[ho]at hq;cases hq
     |some o=>
      rw[ho]at hq hwant;have hoo:vQ fs o.op=true:=by simp only[xQ,Array.all_eq_true']at hi;exact hi o (Array.mem_of_getElem? ho)
      have e1:stepG.exec P main true {fn:=fn,tmps:=tmps,todo:=.inRegion ops (j::rest)::k,defers:=defers,mode:=mode,kind:=kind} (l++cs) none V=stepG.apply P true {fn:=fn,tmps:=tmps,todo:=.inRegion ops (j::rest)::k,defers:=defers,mode:=mode,kind:=kind} (l++cs) none (execOp ({fn:=fn,tmps:=tmps,todo:=.inRegion ops (j::rest)::k,defers:=defers,mode:=mode,kind:=kind}:Frame).eval o) V:=by simp only[stepG.exec,ho,hq, ↓reduceIte,stepG.oper,Frame.oper?]
      have e2:stepG.exec P main' true (dL ρ {fn:=fn,tmps:=tmps,todo:=.inRegion ops (j::rest)::k,defers:=defers,mode:=mode,kind:=kind}) (l.map (dL ρ)++cs') none W=stepG.apply P true (dL ρ {fn:=fn,tmps:=tmps,todo:=.inRegion ops (j::rest)::k,defers:=defers,mode:=mode,kind:=kind}) (l.map (dL ρ)++cs') none (execOp (dL ρ {fn:=fn,tmps:=tmps,todo:=.inRegion ops (j::rest)::k,defers:=defers,mode:=mode,kind:=kind}).eval o) W:=by simp only[stepG.exec,dL,ho,hwant, ↓reduceIte,stepG.oper,Frame.oper?]
      rw[e1]at ha ⊢;rw[e2];exact QH H (vZ H.toOkG H.calls hev o hoo) hfr hl hw ha hgo
  |code c=>
   cases c with
   |skip=>exact go k mode hk
   |label n=>exact go k mode hk
   |ret=>exact go (.code .ret::k) .returning (fun i hi'=>by simp only[List.mem_cons]at hi';rcases hi' with rfl|h;rfl;exact hk i h)
   |seq a b=>simp only[xQ,x8,Bool.and_eq_true]at hi;exact go (.code a:: .code b::k) mode (two hi.1 hi.2)
   |block id b=>exact go (.code b:: .inBlock id::k) mode (two hi rfl)
   |loop b=>exact go (.code b:: .inLoop b::k) mode (two hi hi)
   |scope b=>exact go (.code b:: .inScope b::k) mode (two hi hi)
   |refuse w=>exact .bad
   |rangeFunc=>exact Bool.noConfusion hi
   |cond c a b=>
    simp only[xQ,x8,Bool.and_eq_true]at hi;have e:=hev.ok c hi.1.1;have one:∀{x:Code},x8 fs x=true→∀i∈Item.code x::k,xQ fs i=true:=by
     intro x hx i hi';simp only[List.mem_cons]at hi';rcases hi' with rfl|h
     ·exact hx
     ·exact hk i h
    cases hv:({fn:=fn,tmps:=tmps,todo:=.code (.cond c a b)::k,defers:=defers,mode:=mode,kind:=kind}:Frame).eval c with
    |bool t=>
     rw[hv]at e;simp only[mv]at e;have e1:stepG.exec P main true {fn:=fn,tmps:=tmps,todo:=.code (.cond c a b)::k,defers:=defers,mode:=mode,kind:=kind} (l++cs) none V= .go (cz {fn:=fn,tmps:=tmps,todo:=.code (if t then a else b)::k,defers:=defers,mode:=mode,kind:=kind} (l++cs) .running) V:=by simp only[stepG.exec,hv];rfl
     have e2:stepG.exec P main' true (dL ρ {fn:=fn,tmps:=tmps,todo:=.code (.cond c a b)::k,defers:=defers,mode:=mode,kind:=kind}) (l.map (dL ρ)++cs') none W= .go (cz (dL ρ {fn:=fn,tmps:=tmps,todo:=.code (if t then a else b)::k,defers:=defers,mode:=mode,kind:=kind}) (l.map (dL ρ)++cs') .running) W:=by simp only[dL]at e;simp only[stepG.exec,dL,e];rfl
     rw[e1,e2];refine go _ mode (one ?_);cases t
     ·exact hi.2
     ·exact hi.1.2
    |_=>
     have e1:∃o x,stepG.exec P main true {fn:=fn,tmps:=tmps,todo:=.code (.cond c a b)::k,defers:=defers,mode:=mode,kind:=kind} (l++cs) none V= .ended o V x:=by simp only[stepG.exec,hv];exact⟨_,_,rfl⟩
     obtain⟨o,x,e1⟩:=e1;rw[e1];exact .bad
   |exit id=>
    cases he:exitTo id k with
    |some k'=>
     have e1:stepG.exec P main true {fn:=fn,tmps:=tmps,todo:=.code (.exit id)::k,defers:=defers,mode:=mode,kind:=kind} (l++cs) none V= .go (cz {fn:=fn,tmps:=tmps,todo:=k',defers:=defers,mode:=mode,kind:=kind} (l++cs) .running) V:=by simp only[stepG.exec,he];rfl
     have e2:stepG.exec P main' true (dL ρ {fn:=fn,tmps:=tmps,todo:=.code (.exit id)::k,defers:=defers,mode:=mode,kind:=kind}) (l.map (dL ρ)++cs') none W= .go (cz (dL ρ {fn:=fn,tmps:=tmps,todo:=k',defers:=defers,mode:=mode,kind:=kind}) (l.map (dL ρ)++cs') .running) W:=by simp only[stepG.exec,dL,he];rfl
     rw[e1,e2];exact go k' mode (Bb hk he)
    |none=>
     have e1:∃o x,stepG.exec P main true {fn:=fn,tmps:=tmps,todo:=.code (.exit id)::k,defers:=defers,mode:=mode,kind:=kind} (l++cs) none V= .ended o V x:=by simp only[stepG.exec,he];exact⟨_,_,rfl⟩
     obtain⟨o,x,e1⟩:=e1;rw[e1];exact .bad
   |goto n=>
    cases he:gotoIn n k with
    |some k'=>
     have e1:stepG.exec P main true {fn:=fn,tmps:=tmps,todo:=.code (.goto n)::k,defers:=defers,mode:=mode,kind:=kind} (l++cs) none V= .go (cz {fn:=fn,tmps:=tmps,todo:=k',defers:=defers,mode:=mode,kind:=kind} (l++cs) .running) V:=by simp only[stepG.exec,he];rfl
     have e2:stepG.exec P main' true (dL ρ {fn:=fn,tmps:=tmps,todo:=.code (.goto n)::k,defers:=defers,mode:=mode,kind:=kind}) (l.map (dL ρ)++cs') none W= .go (cz (dL ρ {fn:=fn,tmps:=tmps,todo:=k',defers:=defers,mode:=mode,kind:=kind}) (l.map (dL ρ)++cs') .running) W:=by simp only[stepG.exec,dL,he];rfl
     rw[e1,e2];exact go k' mode (Bf hk he)
    |none=>
     have e1:∃o x,stepG.exec P main true {fn:=fn,tmps:=tmps,todo:=.code (.goto n)::k,defers:=defers,mode:=mode,kind:=kind} (l++cs) none V= .ended o V x:=by simp only[stepG.exec,he];exact⟨_,_,rfl⟩
     obtain⟨o,x,e1⟩:=e1;rw[e1];exact .bad
   |region id ops draw=>
    have reg:∀t:List Nat,∀i∈Item.inRegion ops t::k,xQ fs i=true:=by
     intro t i hi';simp only[List.mem_cons]at hi';rcases hi' with rfl|h
     ·exact hi
     ·exact hk i h
    cases draw with
    |false=>exact go (.inRegion ops (List.range ops.size)::k) mode (reg _)
    |true=>
     have e1:stepG.exec P main true {fn:=fn,tmps:=tmps,todo:=.code (.region id ops true)::k,defers:=defers,mode:=mode,kind:=kind} (l++cs) none V=
      .go (cz {fn:=fn,tmps:=tmps,todo:=.inRegion ops (Region.schedule (P.follows .mixedOrders) ops (V.tape V.drawn (.order fn id)))::k,defers:=defers,mode:=mode,kind:=kind} (l++cs) .running) {V with drawn:=V.drawn+1}:=by
      simp[stepG.exec,choose,Sem.run,Question.forced,Question.cut,cz]
     have e2:stepG.exec P main' true (dL ρ {fn:=fn,tmps:=tmps,todo:=.code (.region id ops true)::k,defers:=defers,mode:=mode,kind:=kind}) (l.map (dL ρ)++cs') none W=
      .go (cz (dL ρ {fn:=fn,tmps:=tmps,todo:=.inRegion ops (Region.schedule (P.follows .mixedOrders) ops (W.tape W.drawn (.order fn id)))::k,defers:=defers,mode:=mode,kind:=kind}) (l.map (dL ρ)++cs') .running) {W with drawn:=W.drawn+1}:=by
      simp[stepG.exec,choose,Sem.run,Question.forced,Question.cut,cz,dL]
     rw[e1]at ha ⊢;rw[e2];have et:V.tape V.drawn=W.tape W.drawn:=by simpa using ha.2 0 (by simp[mP])
     rw[←et];have oc:Out ρ V W {V with drawn:=V.drawn+1} {W with drawn:=W.drawn+1}:=
      ⟨⟨hw.eq,hw.kg,hw.os⟩,rfl,by simp;omega,rfl,rfl,rfl,fun _ _ _=>rfl,Nat.le_refl _,by simp,rfl,fun x h1 h2=>by simp at h2;omega,rfl⟩
     have:=gB.go (P:=P) (ρ:=ρ) (fs:=fs) (cs:=cs) (cs':=cs') (V:=V) (W:=W) (f:={fn:=fn,tmps:=tmps,todo:=.inRegion ops (Region.schedule (P.follows .mixedOrders) ops (V.tape V.drawn (.order fn id)))::k,defers:=defers,mode:=mode,kind:=kind}) (l:=l) (st:=.running) (es:=#[]) (.inl rfl) ⟨reg _,rfl,hfr.defers⟩ hl oc (by simp);simpa using this
  |_=>exact Bool.noConfusion hi
end Go.Ren
