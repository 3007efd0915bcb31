import Derived.Test.YtheibfffilomcabGreatDoorR32U
set_option linter.all false
set_option maxHeartbeats 1000000
namespace Go.Ren
set_option linter.unusedSimpArgs false
set_option linter.unusedVariables false
set_option linter.unusedSectionVars false
variable {P:Program} {τ:Nat→Nat} {fs:FuncId→Bool} {gs:FuncId→Tmp→Bool}
theorem G6 {g:Tmp→Bool} {id:Nat}:∀{k k':List Item},(∀i∈k,vP g i=true)→exitTo id k=some k'→∀i∈k',vP g i=true:=by
 intro k;induction k with
 |nil=>intro k' h e;simp[exitTo]at e
 |cons x k ih=>
  intro k' h e;have hk:∀i∈k,vP g i=true:=fun i hi=>h i (by simp[hi]);cases x<;>simp only[exitTo]at e<;>try exact ih hk e
  split at e
  ·cases e;exact hk
  ·exact ih hk e
theorem zX {g:Tmp→Bool} {n:Nat}:∀{c c':Code},nX g c=true→findLabel c n=some c'→nX g c'=true:=by
 intro c;induction c with
 |seq a b iha ihb=>
  intro c' h e;simp only[nX,Bool.and_eq_true]at h;simp only[findLabel]at e;split at e
  ·rename_i r hr;cases e;simp only[nX,Bool.and_eq_true];exact⟨iha h.1 hr,h.2⟩
  ·exact ihb h.2 e
 |label m=>
  intro c' h e;simp only[findLabel]at e;split at e
  ·cases e;rfl
  ·cases e
 |_=>intro c' h e;simp[findLabel]at e
theorem Hg {g:Tmp→Bool} {n:Nat}:∀{k k':List Item},(∀i∈k,vP g i=true)→gotoIn n k=some k'→∀i∈k',vP g i=true:=by
 intro k;induction k with
 |nil=>intro k' h e;simp[gotoIn]at e
 |cons x k ih=>
  intro k' h e;have hk:∀i∈k,vP g i=true:=fun i hi=>h i (by simp[hi]);cases x<;>simp only[gotoIn]at e<;>try exact ih hk e
  rename_i body;have hb:nX g body=true:=h (.inScope body) (by simp);split at e
  ·rename_i r hr;cases e;intro i hi;simp only[List.mem_cons]at hi;rcases hi with rfl|rfl|hi
   ·exact zX hb hr
   ·exact hb
   ·exact hk i hi
  ·exact ih hk e
theorem tq.refl {V V':World} (hc:Clean τ V) (hh:V'.heap=V.heap):tq τ V V' #[]:=⟨⟨fun b o h=>hc.obj b o (by rw[←hh];exact h),fun b h=>hc.new b (by rw[←hh];exact h)⟩,fun b _=>by rw[hh],by simp⟩
section
theorem Ud (Hi:OkS P id fs) (hdf:fs lS=false) (hgo:P.follows .goNilFatal=true→fs fM=false) (H:OkG P τ) (hf:QC P τ fs) (B:yo P fs gs) {main:Bool} {fr:Frame} (h:US τ fs gs fr) {l cs:List Frame} (hl:∀x∈l,US τ fs gs x) {V V':World} (hc:Clean τ V) (hn:NP V) {g:Goroutine} {es:Array Event}
 (hs:stepG.exec P main true fr (l++cs) none V= .go g V' es):∃f' l' st,g=cz f' (l'++cs) st∧US τ fs gs f'∧(∀x∈l',US τ fs gs x)∧tq τ V V' es:=by
 obtain⟨fn,tmps,todo,defers,mode,kind,round⟩:=fr;have Hq:round=none:=h.ok.round;subst Hq;have go:∀(t:List Item) (m:FrameMode) (W:World),W.heap=V.heap→stepG.exec P main true {fn:=fn,tmps:=tmps,todo:=todo,defers:=defers,mode:=mode,kind:=kind} (l++cs) none V= .go (cz {fn:=fn,tmps:=tmps,todo:=t,defers:=defers,mode:=m,kind:=kind} (l++cs) .running) W→
  (m=mode∨m= .returning)→(∀i∈t,xQ fs i=true)→(∀i∈t,vP (gs fn) i=true)→∃f' l' st,g=cz f' (l'++cs) st∧US τ fs gs f'∧(∀x∈l',US τ fs gs x)∧tq τ V V' es:=by
  intro t m W hW e hm h1 h2;rw[e]at hs;cases hs;exact⟨_,l,_,rfl,aae h t m hm h1 h2,hl,tq.refl hc hW⟩
 cases todo with
 |nil=>exact go [] .returning V rfl rfl (.inr rfl) (by simp) (by simp)
 |cons i k=>
  have hi:=h.ok.todo i (by simp);have hiu:=h.todo i (by simp);have hk:∀i∈k,xQ fs i=true:=fun x hx=>h.ok.todo x (by simp[hx]);have Gw:∀i∈k,vP (gs fn) i=true:=fun x hx=>h.todo x (by simp[hx]);have two:∀{f:Item→Bool} {a b:Item},(∀i∈k,f i=true)→f a=true→f b=true→∀i∈a::b::k,f i=true:=by
   intro f a b h0 h1 h2 i hi;simp only[List.mem_cons]at hi;rcases hi with rfl|rfl|hi
   ·exact h1
   ·exact h2
   ·exact h0 i hi
  have one:∀{f:Item→Bool} {a:Item},(∀i∈k,f i=true)→f a=true→∀i∈a::k,f i=true:=by
   intro f a h0 h1 i hi;simp only[List.mem_cons]at hi;rcases hi with rfl|hi
   ·exact h1
   ·exact h0 i hi
  cases i with
  |inBlock id=>exact go k mode V rfl rfl (.inl rfl) hk Gw
  |inScope b=>exact go k mode V rfl rfl (.inl rfl) hk Gw
  |inLoop b=>exact go (.code b:: .inLoop b::k) mode V rfl rfl (.inl rfl) (two hk hi hi) (two Gw hiu hiu)
  |inRegion ops todo=>
   cases todo with
   |nil=>exact go k mode V rfl rfl (.inl rfl) hk Gw
   |cons j rest=>
    cases hq:((ops[j]?).map (Region.wanted · (yielded ops tmps))).getD false with
    |false=>
     have e1:stepG.exec P main true {fn:=fn,tmps:=tmps,todo:=.inRegion ops (j::rest)::k,defers:=defers,mode:=mode,kind:=kind} (l++cs) none V= .go (cz (({fn:=fn,tmps:=tmps,todo:=.inRegion ops (j::rest)::k,defers:=defers,mode:=mode,kind:=kind}:Frame).finish undef) (l++cs) .running) V:=by simp only[stepG.exec,hq];rfl
     rw[e1]at hs;cases hs;exact⟨_,l,_,rfl,pg h undef (.inl iQ),hl,tq.refl hc rfl⟩
    |true=>
     cases ho:ops[j]? with
     |none=>rw[ho]at hq;cases hq
     |some o=>
      rw[ho]at hq;have hoo:vQ fs o.op=true:=by simp only[xQ,Array.all_eq_true']at hi;exact hi o (Array.mem_of_getElem? ho)
      have hou:Vg (gs fn) o=true:=by simp only[vP,Array.all_eq_true']at hiu;exact hiu o (Array.mem_of_getElem? ho)
      have e1:stepG.exec P main true {fn:=fn,tmps:=tmps,todo:=.inRegion ops (j::rest)::k,defers:=defers,mode:=mode,kind:=kind} (l++cs) none V=stepG.apply P true {fn:=fn,tmps:=tmps,todo:=.inRegion ops (j::rest)::k,defers:=defers,mode:=mode,kind:=kind} (l++cs) none (execOp ({fn:=fn,tmps:=tmps,todo:=.inRegion ops (j::rest)::k,defers:=defers,mode:=mode,kind:=kind}:Frame).eval o) V:=by simp only[stepG.exec,ho,hq, ↓reduceIte,stepG.oper,Frame.oper?]
      rw[e1]at hs;exact QI Hi hdf hgo H hf B h (by simp[Frame.oper?,ho]) hoo hou hl hc hn hs
  |code c=>
   cases c with
   |skip=>exact go k mode V rfl rfl (.inl rfl) hk Gw
   |label n=>exact go k mode V rfl rfl (.inl rfl) hk Gw
   |ret=>exact go (.code .ret::k) .returning V rfl rfl (.inr rfl) (one hk rfl) (one Gw rfl)
   |seq a b=>simp only[xQ,x8,Bool.and_eq_true]at hi;simp only[vP,nX,Bool.and_eq_true]at hiu;exact go (.code a:: .code b::k) mode V rfl rfl (.inl rfl) (two hk hi.1 hi.2) (two Gw hiu.1 hiu.2)
   |block id b=>exact go (.code b:: .inBlock id::k) mode V rfl rfl (.inl rfl) (two hk hi rfl) (two Gw hiu rfl)
   |loop b=>exact go (.code b:: .inLoop b::k) mode V rfl rfl (.inl rfl) (two hk hi hi) (two Gw hiu hiu)
   |scope b=>exact go (.code b:: .inScope b::k) mode V rfl rfl (.inl rfl) (two hk hi hi) (two Gw hiu hiu)
   |refuse w=>cases hs
   |rangeFunc=>exact Bool.noConfusion hi
   |cond c a b=>
    simp only[xQ,x8,Bool.and_eq_true]at hi;simp only[vP,nX,Bool.and_eq_true]at hiu;cases hv:({fn:=fn,tmps:=tmps,todo:=.code (.cond c a b)::k,defers:=defers,mode:=mode,kind:=kind}:Frame).eval c with
    |bool t=>
     refine go (.code (if t then a else b)::k) mode V rfl (by simp only[stepG.exec,hv];rfl) (.inl rfl) (one hk ?_) (one Gw ?_)
     ·cases t
      ·exact hi.2
      ·exact hi.1.2
     ·cases t
      ·exact hiu.2
      ·exact hiu.1
    |_=>simp only[stepG.exec,hv]at hs;cases hs
   |exit id=>
    cases he:exitTo id k with
    |some k'=>exact go k' mode V rfl (by simp only[stepG.exec,he];rfl) (.inl rfl) (Bb hk he) (G6 Gw he)
    |none=>simp only[stepG.exec,he]at hs;cases hs
   |goto n=>
    cases he:gotoIn n k with
    |some k'=>exact go k' mode V rfl (by simp only[stepG.exec,he];rfl) (.inl rfl) (Bf hk he) (Hg Gw he)
    |none=>simp only[stepG.exec,he]at hs;cases hs
   |region id ops draw=>
    cases draw with
    |false=>exact go (.inRegion ops (List.range ops.size)::k) mode V rfl rfl (.inl rfl) (one hk hi) (one Gw hiu)
    |true=>exact go (.inRegion ops (Region.schedule (P.follows .mixedOrders) ops (V.tape V.drawn (.order fn id)))::k) mode {V with drawn:=V.drawn+1} rfl (by simp[stepG.exec,choose,Sem.run,Question.forced,Question.cut,cz]) (.inl rfl) (one hk hi) (one Gw hiu)
  |_=>exact Bool.noConfusion hi
end
end Go.Ren
namespace Go.Ren
set_option linter.unusedSimpArgs false
set_option linter.unusedVariables false
set_option linter.unusedSectionVars false
variable {P:Program} {τ:Nat→Nat} {fs:FuncId→Bool} {gs:FuncId→Tmp→Bool}
theorem Fh {α:Type} {Q:α→Prop}:RO P τ Q (runtimePanic .nilDeref:Sem α):=by unfold runtimePanic;exact RO.program (RO.panic (by simp[mv,strVal]))
theorem zw {g:Tmp→Bool} (f:Func) (tmps:Array Value) (hr:f.results.all (Lu g)=true) (ht:∀(t:Nat) (v:Value),tmps[t]? =some v→g t=false→mv τ v=v):RO P τ (fun v=>mv τ v=v) (results f tmps):=by
 unfold results;rw[Array.mapM_eq_mapM_toList];have key:∀l:List ResultVar,(∀r∈l,Lu g r=true)→RO P τ (fun(c:List Value)=>c.map (mv τ)=c)
  (l.mapM fun| .tmp t=>Pure.pure (tmps.getD t undef)| .cell a t=>do loadVar t (←asAddr (tmps.getD a undef))):=by
  intro l;induction l with
  |nil=>intro _;exact fZ rfl
  |cons x l ih=>
   intro hx;rw[List.mapM_cons];refine RO.bind (Q:=fun v=>mv τ v=v) ?_ fun v hv=>RO.bind (ih fun r h=>hx r (by simp[h])) fun c hc=>fZ (by simp[hv,hc]);have:=hx x (by simp);cases x with
   |tmp t=>
    refine fZ ?_;simp only[Array.getD_eq_getD_getElem?];cases h:tmps[t]? with
    |none=>exact iQ
    |some v=>exact ht t v h (by simpa[Lu]using this)
   |cell a t=>
    show RO P τ (fun v=>mv τ v=v) (asAddr (tmps.getD a undef)>>= fun x=>loadVar t x);refine RO.bind (Q:=fun _=>True) ?_ fun a _=>?_
    ·unfold asAddr;split
     ·exact fZ trivial
     ·exact Fh
     ·exact .dead trivial
    ·refine RO.bind (Fg t) fun b _=>?_;cases b with
     |true=>exact RO.bind (Q:=fun _=>True) (RO.bind (qZ t) fun _ _=>fZ trivial) fun n _=>RO.bind (uR a n 0 #[] (by simp)) fun c hc=>fZ (by simp[mv,hc])
     |false=>exact RO.load fun v hv=>.pure hv
 rw[Array.all_eq_true']at hr;refine RO.bind (Q:=fun(c:Array Value)=>c.map (mv τ)=c) (RO.bind (key f.results.toList fun r h=>hr r (by simpa using h)) fun c hc=>fZ (by simp[hc])) fun c hc=>fZ ?_;by_cases h:c.size=1
 ·simp only[h, ↓reduceDIte];have:(c.map (mv τ))[0]? =c[0]? :=by rw[hc]
  simp[h]at this;exact this
 ·simp[h,mv,hc]
theorem BS {c:Frame} (h:US τ fs gs c):US τ fs gs (backTo c):=by
 have hok:=AY h.ok;obtain⟨fn,tmps,todo,defers,mode,kind,round⟩:=c;have hm:=h.u.mode;cases mode with
 |run=>exact h
 |returning=>exact h
 |panicking ch=>
  simp only[gZ,FrameMode.panicking.injEq]at hm;cases ch with
  |nil=>exact h
  |cons e older=>
   obtain⟨v,rec,gx⟩:=e;cases rec with
   |false=>exact h
   |true=>
    simp only[List.map_cons,List.cons.injEq]at hm;have hd:∀l:List PanicEntry,(l.map fun e=>({e with v:=mv τ e.v}:PanicEntry))=l→((l.dropWhile (!·.goexit)).map fun e=>({e with v:=mv τ e.v}:PanicEntry))=l.dropWhile (!·.goexit):=by
     intro l;induction l with
     |nil=>intro _;rfl
     |cons x l ih=>
      intro hx;simp only[List.map_cons,List.cons.injEq]at hx;rw[List.dropWhile_cons];split
      ·exact ih hx.2
      ·simp only[List.map_cons,List.cons.injEq];exact hx
    have hrest:=hd older hm.2;simp only[backTo]at hok ⊢;cases hdw:older.dropWhile (!·.goexit)with
    |nil=>rw[hdw]at hok;exact⟨hok,⟨h.u.tmps,h.u.defers,rfl⟩,h.todo,h.fn,h.Rq⟩
    |cons y ys=>rw[hdw]at hok hrest;exact⟨hok,⟨h.u.tmps,h.u.defers,by simp only[gZ];rw[hrest]⟩,h.todo,h.fn,h.Rq⟩
section
theorem VK (Hi:OkS P id fs) (hdf:fs lS=false) (hgo:P.follows .goNilFatal=true→fs fM=false) (H:OkG P τ) (hf:QC P τ fs) (B:yo P fs gs) {main:Bool} {fr:Frame} (h:US τ fs gs fr) {l cs:List Frame} (hl:∀x∈l,US τ fs gs x) {V V':World} (hc:Clean τ V) (hn:NP V) (hex:fr.mode= .run∨fr.defers≠[]∨l≠[]) {g:Goroutine} {es:Array Event}
 (hs:stepG P main (cz fr (l++cs) .running) V= .go g V' es):∃f' l' st,g=cz f' (l'++cs) st∧US τ fs gs f'∧(∀x∈l',US τ fs gs x)∧tq τ V V' es:=by
 obtain⟨fn,tmps,todo,defers,mode,kind,round⟩:=fr;have hd:defers=[]:=h.Rq;subst hd;cases mode with
 |run=>exact Ud Hi hdf hgo H hf B h hl hc hn hs
 |panicking ch=>
  cases l with
  |nil=>rcases hex with h|h|h<;>first|cases h|exact absurd rfl h
  |cons c l=>
   have cat:Frame.catches P {fn:=fn,tmps:=tmps,todo:=todo,defers:=[],mode:=.panicking ch,kind:=kind,roundOf:=round}=false:=by
    unfold Frame.catches;cases P.funcs[fn]? with
    |some f=>rfl
    |none=>
     cases todo with
     |nil=>rfl
     |cons i k=>have:=h.ok.todo i (by simp);cases i<;>first|rfl|exact Bool.noConfusion this
   have e:stepG P main (cz {fn:=fn,tmps:=tmps,todo:=todo,defers:=[],mode:=.panicking ch,kind:=kind,roundOf:=round} (c::l++cs) .running) V= .go (cz (c.raise ch) (l++cs) .running) V:=by simp[stepG,cz,unwind,cat]
   rw[e]at hs;cases hs;have hm:=h.u.mode;simp only[gZ,FrameMode.panicking.injEq]at hm;exact⟨_,l,_,rfl,zO (hl c (by simp)) ch hm,fun x hx=>hl x (by simp[hx]),tq.refl hc rfl⟩
 |returning=>
  cases l with
  |nil=>rcases hex with h|h|h<;>first|cases h|exact absurd rfl h
  |cons c l=>
   have YY:=hl c (by simp);have hl':∀x∈l,US τ fs gs x:=fun x hx=>hl x (by simp[hx]);obtain⟨f,hfn,_,hres⟩:=B.body fn h.fn;obtain⟨d,h1,h2,h3,_⟩:=(zw (P:=P) f tmps hres h.u.tmps).runT V #[] hc hn;rcases hr:(results f tmps).runT P V #[]with⟨r,ev⟩;rw[hr]at h1 h2 h3;simp only[Array.empty_append]at h1;subst h1;have o:∀{x:Array Event},(∀e∈x,e∈ev)→tq τ V (world r) x:=fun hx=>⟨⟨fun b o hb=>hc.obj b o (by rw[←h2.heap];exact hb),fun b hb=>hc.new b (by rw[←h2.heap];exact hb)⟩,fun b _=>by rw[h2.heap],fun e he=>.inr (h2.evs e (hx e he)).1⟩;cases r with
   |halt x V1=>
    exfalso;have:∃o y,stepG P main (cz {fn:=fn,tmps:=tmps,todo:=todo,defers:=[],mode:=.returning,kind:=kind,roundOf:=round} (c::l++cs) .running) V= .ended o V1 y:=by cases x<;>(simp only[stepG,cz,unwind,hfn];rw[hr];exact⟨_,_,rfl⟩)
    obtain⟨o,y,e⟩:=this;rw[e]at hs;cases hs
   |ok v V1=>
    have hv:=h3 v V1 rfl;have fin:∀c',US τ fs gs c'→doReturn P main {fn:=fn,tmps:=tmps,todo:=todo,defers:=[],mode:=.returning,kind:=kind,roundOf:=round} (c::(l++cs)) none v V1= .go (cz c' (l++cs) .running) V1→∃f' l' st,g=cz f' (l'++cs) st∧US τ fs gs f'∧(∀x∈l',US τ fs gs x)∧tq τ V V' es:=by
     intro c' hc' e0;have e:stepG P main (cz {fn:=fn,tmps:=tmps,todo:=todo,defers:=[],mode:=.returning,kind:=kind,roundOf:=round} (c::l++cs) .running) V= .go (cz c' (l++cs) .running) V1 (Go.seen P fn ev++ #[]):=by simp only[stepG,cz,unwind,hfn,List.cons_append];rw[hr];dsimp only;rw[e0];rfl
     rw[e]at hs;cases hs;exact⟨_,l,_,rfl,hc',hl',o fun e he=>mem_seen (by simpa using he)⟩
    cases kind with
    |normal=>exact fin _ (pg YY v (.inl hv)) rfl
    |wrapped=>exact fin _ (pg YY v (.inl hv)) rfl
    |early=>exact fin _ YY rfl
    |deferred=>exact fin _ (BS YY) rfl
    |report=>exact fin _ (BS YY) rfl
end
theorem HZ {Post:Value→World→Prop} {fr:Frame} {l:List Frame} {V:World} (h:LT P (Kw P Post) fr l V):US τ fs gs fr→(∀x∈l,US τ fs gs x)→∀ch,fr.mode≠ .panicking ch:=by
 induction h with
 |fin hF=>intro _ _ ch e;have:=(hF default 0).1;rw[e]at this;cases this
 | @step fr l V hex hst _ ih=>
   intro hu hl ch e;obtain⟨fn,tmps,todo,defers,mode,kind,round⟩:=fr;have hd:defers=[]:=hu.Rq;simp only at e;subst hd e;cases l with
   |nil=>rcases hex with h|h|h<;>first|cases h|exact absurd rfl h
   |cons c l=>
    have cat:Frame.catches P {fn:=fn,tmps:=tmps,todo:=todo,defers:=[],mode:=.panicking ch,kind:=kind,roundOf:=round}=false:=by
     unfold Frame.catches;cases P.funcs[fn]? with
     |some f=>rfl
     |none=>
      cases todo with
      |nil=>rfl
      |cons i k=>have:=hu.ok.todo i (by simp);cases i<;>first|rfl|exact Bool.noConfusion this
    have e:stepG P true (cz {fn:=fn,tmps:=tmps,todo:=todo,defers:=[],mode:=.panicking ch,kind:=kind,roundOf:=round} (c::l++[trap P]) .running) (on V default 0)= .go (cz (c.raise ch) (l++[trap P]) .running) (on V default 0):=by simp[stepG,cz,unwind,cat]
    have hm:=hu.u.mode;simp only[gZ,FrameMode.panicking.injEq]at hm;obtain⟨c2,hc2⟩:=raise_mode c ch;exact ih default 0 _ _ _ _ e (zO (hl c (by simp)) ch hm) (fun x hx=>hl x (by simp[hx])) c2 hc2
end Go.Ren
namespace Go.Ren
set_option linter.unusedSimpArgs false
set_option linter.unusedVariables false
set_option linter.unusedSectionVars false
variable {P:Program} {fs:FuncId→Bool} {gs:FuncId→Tmp→Bool}
structure Fam (P:Program) (fs:FuncId→Bool) (L:Nat) (T:(Nat→Nat)→Prop):Prop where
 ok:∀τ,T τ→OkG P τ∧QC P τ fs
 moves:∀b,b<L→∃τ,T τ∧τ b≠b
 pos:0<L
def Tidy (T:(Nat→Nat)→Prop) (Post:Value→World→Prop) (v:Value) (V:World):Prop:=Post v V∧NP V∧∀τ,T τ→Clean τ V∧mv τ v=v
theorem OQ {L:Nat} {T:(Nat→Nat)→Prop} (Hi:OkS P id fs) (hdf:fs lS=false) (hgo:P.follows .goNilFatal=true→fs fM=false) (B:yo P fs gs) (F:Fam P fs L T) {Post:Value→World→Prop} {fr:Frame} {l:List Frame} {V:World}
 (h:LT P (Kw P Post) fr l V):(∀τ,T τ→US τ fs gs fr)→(∀τ,T τ→∀x∈l,US τ fs gs x)→(∀τ,T τ→Clean τ V)→NP V→LK P (Kw P (Tidy T Post)) (Calm L) fr l V:=by
 obtain⟨τ1,ht1,_⟩:=F.moves 0 F.pos;induction h with
 | @fin fr V hF=>
   intro hu _ hc hn;refine .fin fun t d=>?_;obtain⟨h1,h2,h3,fn,v,h4,h5,h6⟩:=hF t d;refine⟨h1,h2,h3,fn,v,h4,h5,h6,hn,fun τ eY=>⟨⟨(hc τ eY).obj,(hc τ eY).new⟩,?_⟩⟩;obtain⟨fn2,Oz,_,hres⟩:=B.body fr.fn (hu τ eY).fn;rw[h4]at Oz;cases Oz;have ro:=zw (P:=P) fn fr.tmps hres (hu τ eY).u.tmps;rw[h5]at ro;cases ro with
   |pure h=>exact h
 | @step fr l V hex hst hnx ih=>
   intro hu hl hc hn;have okl:∀x∈l,dZ fs x:=fun x hx=>(hl τ1 ht1 x hx).ok;have all:∀t d f' l' V' es,stepG P true (cz fr (l++[trap P]) .running) (on V t d)= .go (cz f' (l'++[trap P]) .running) V' es→
    (∀τ,T τ→US τ fs gs f'∧(∀x∈l',US τ fs gs x)∧tq τ (on V t d) V' es)∧NP V'∧∀e∈es,mH V'.heap.size e.loc∨(e.loc= .output∧∃ch,f'.mode= .panicking ch):=by
    intro t d f' l' V' es hs;refine⟨fun τ eY=>?_,?_⟩
    ·obtain⟨h1,h2⟩:=F.ok τ eY;obtain⟨f2,l2,st,e,k1,k2,k3⟩:=VK Hi hdf hgo h1 h2 B (hu τ eY) (hl τ eY) (V:=on V t d) ⟨(hc τ eY).obj,(hc τ eY).new⟩ hn hex hs;obtain⟨rfl,e3,_⟩:=kE e;obtain rfl:=List.append_cancel_right e3;exact⟨k1,k2,k3⟩
    ·have hw:WR id (on V t d) (on V t d):=⟨fun b=>by cases hb:(on V t d).heap[b]? <;>simp[hb,CF],hn,rfl⟩;have:=De (cs:=[trap P]) (cs':=[trap P]) (main:=true) (main':=true) (st:=.running) (st':=.running) Hi hgo (hu τ1 ht1).ok okl hw hex ⟨fun i _=>rfl,fun i _=>rfl⟩;rw[hs]at this;obtain⟨f,l1,st,W1,_,e1,_,_,_,ho,he⟩:=this.inv rfl;obtain⟨rfl,_,_⟩:=kE e1;exact⟨ho.wr.kg,he⟩
   refine .step hex (fun t d=>?_) fun t d f' l' V' es hs=>?_
   ·obtain⟨f',l',V',es,hs⟩:=hst t d;refine⟨f',l',V',es,hs,?_⟩;obtain⟨k1,k2,k3⟩:=all t d f' l' V' es hs;have np:=HZ (hnx t d f' l' V' es hs) (k1 τ1 ht1).1 (k1 τ1 ht1).2.1;refine⟨fun b hb=>?_,fun e he=>⟨fun ho=>?_,fun a ha hal=>?_,fun r hr hrl=>?_⟩⟩
    ·obtain⟨τ,eY,hm⟩:=F.moves b hb;exact(k1 τ eY).2.2.still b hm
    ·rcases k3 e he with h|⟨_,ch,h⟩
     ·rw[ho]at h;exact h
     ·exact np ch h
    ·obtain⟨τ,eY,hm⟩:=F.moves a.block hal;rcases(k1 τ eY).2.2.evs e he with h|h
     ·rw[ha]at h;simp only[iq,Loc.cell.injEq]at h;exact absurd (oN h) hm
     ·exact h
    ·obtain⟨τ,eY,hm⟩:=F.moves r hrl;rcases(k1 τ eY).2.2.evs e he with h|h
     ·rw[hr]at h;simp only[iq,Loc.obj.injEq]at h;exact absurd h hm
     ·exact h
   ·obtain⟨k1,k2,_⟩:=all t d f' l' V' es hs;exact ih t d f' l' V' es hs (fun τ eY=>(k1 τ eY).1) (fun τ eY=>(k1 τ eY).2.1) (fun τ eY=>(k1 τ eY).2.2.clean) k2
end Go.Ren
namespace Go.Ren
set_option linter.unusedSimpArgs false
set_option linter.unusedVariables false
set_option linter.unusedSectionVars false
variable {P:Program} {fs:FuncId→Bool} {gs:FuncId→Tmp→Bool}
def oM:ResultVar→Bool
 | .tmp _=>true
 |_=>false
theorem mapM_pure {tmps:Array Value} {F:ResultVar→Sem Value} (hF:∀t,F (.tmp t)= .pure (tmps.getD t undef)):∀l:List ResultVar,(∀r∈l,oM r=true)→∃c,l.mapM F= .pure c:=by
 intro l;induction l with
 |nil=>intro _;exact⟨[],rfl⟩
 |cons x l ih=>
  intro hx;obtain⟨c,hc⟩:=ih fun r h=>hx r (by simp[h]);have:=hx x (by simp);cases x with
  |tmp t=>rw[List.mapM_cons,hc,hF t];exact⟨_,rfl⟩
  |cell a t=>cases this
theorem yZ {tmps:Array Value} {F:ResultVar→Sem Value} (hF:∀t,F (.tmp t)= .pure (tmps.getD t undef)) (l:List ResultVar) (hl:∀r∈l,oM r=true) (k:Array Value→Value):
 ∃v,((List.toArray<$>l.mapM F)>>= fun vs=>(Pure.pure (k vs):Sem Value))= .pure v:=by
 obtain⟨c,hc⟩:=mapM_pure hF l hl;rw[hc];exact⟨_,rfl⟩
theorem CS (f:Func) (tmps:Array Value) (hr:f.results.all oM=true):∃v,results f tmps= .pure v:=by unfold results;rw[Array.mapM_eq_mapM_toList];rw[Array.all_eq_true']at hr;exact yZ (tmps:=tmps) (fun t=>rfl) f.results.toList (fun r h=>hr r (by simpa using h)) _
theorem Ao (Hi:OkS P id fs) (hgo:P.follows .goNilFatal=true→fs fM=false) (hng:fs fM=false) (B:yo P fs gs) {Post:Value→World→Prop} (hP:∀v V τ d,Post v V→Post v (on V τ d))
 {f:FuncId} {args:Array Value} {V:World} (hf:fs f=true) (hroot:∀fn,P.funcs[f]? =some fn→fn.results.all oM=true) (hn:NP V) (hc:∀t d,Calls P f args (on V t d) fun e w=>∃v,e= .returned v∧Post v w):
 LT P (Kw P Post) (Frame.enter P f args .normal) [] V:=by
 refine OX Hi hgo ?_ (oK Hi hf args .normal) (by simp) hn fun t d=>?_
 ·rintro fr V τ d ⟨h1,h2,h3,fn,v,h4,h5,h6⟩;exact⟨h1,h2,h3,fn,v,h4,h5,hP _ _ _ _ h6⟩
 ·obtain⟨e,w',fr',⟨v,rfl,hv⟩,⟨n,hrun⟩,hfn,hleave⟩:=hc t d [trap P];refine MH Hi hgo hng n (Frame.enter P f args .normal) fr' [] (on V t d) w' (oK Hi hf args .normal) (by simp) hn hrun ?_;obtain⟨h1,h2,h3,fn,h4,h5⟩:=hleave;refine⟨h1,h2,h3,fn,v,h4,?_,hv⟩;rw[hfn]at h4;obtain⟨v0,hv0⟩:=CS fn fr'.tmps (hroot fn h4);rw[hv0]at h5 ⊢;simp only[Sem.run,Result.ok.injEq]at h5;rw[h5.1]
end Go.Ren
namespace Go.Ren
set_option linter.unusedSimpArgs false
set_option linter.unusedVariables false
set_option linter.unusedSectionVars false
variable {P:Program} {fs:FuncId→Bool} {gs:FuncId→Tmp→Bool}
structure Kit (P:Program) (fs:FuncId→Bool) (gs:FuncId→Tmp→Bool) (L:Nat) (T:(Nat→Nat)→Prop):Prop where
 A:OkA P fs L
 acM:fs fM=false
 ZB:fs lS=false
 B:yo P fs gs
 F:Fam P fs L T
theorem Cm {L:Nat} {T:(Nat→Nat)→Prop} (Kt:Kit P fs gs L T) {main:Bool} {Post:Value→World→Prop} (hP:∀v V τ d,Post v V→Post v (on V τ d)) {f:FuncId} {args:Array Value} {V:World} (hf:fs f=true) (hroot:∀fn,P.funcs[f]? =some fn→fn.results.all oM=true) (hn:NP V)
 (hcl:∀τ,T τ→Clean τ V∧args.map (mv τ)=args) (hc:∀t d,Calls P f args (on V t d) fun e w=>∃v,e= .returned v∧Post v w)
 {π:Nat→Nat} {w:World} {g:Goroutine} {c:Frame} {cs:List Frame} (hr:HR L π V w) (hg:∀ρ,Ext π V w ρ→g=cz (Frame.enter P f (args.map (mv ρ)) .normal) (c::cs) .running):
 ow P main L (Wh L V.heap.size π (Tidy T Post) c cs) (own L π V) g w:=by
 have Hi:OkS P id fs:=Kt.A.all id (fun _ _ h=>h) (fun _ _=>rfl);have lt:=Ao Hi Kt.A.go Kt.acM Kt.B hP hf hroot hn hc;have lk:=OQ Hi Kt.ZB Kt.A.go Kt.B Kt.F lt (fun τ eY=>Gb Hi Kt.B hf (hcl τ eY).2 .normal) (fun _ _ x hx=>by simp at hx) (fun τ eY=>(hcl τ eY).1) hn;refine lift Kt.A (fun v V τ d h=>⟨hP _ _ _ _ h.1,h.2.1,fun zV h'=>⟨⟨(h.2.2 zV h').1.obj,(h.2.2 zV h').1.new⟩,(h.2.2 zV h').2⟩⟩) lk (oK Hi hf args .normal) (by simp) π w g hr ⟨Nat.le_refl _,fun _ _=>rfl⟩ fun ρ e=>?_;rw[hg ρ e,yO];rfl
end Go.Ren
namespace Go.Ren
set_option linter.unusedSimpArgs false
set_option linter.unusedVariables false
set_option linter.unusedSectionVars false
variable {ρ:Nat→Nat}
theorem K5 {α σ:Type} {f:α→σ→Option (ForInStep σ)} {I:σ→Prop} (hI:∀a s r,I s→f a s=some r→(match r with| .yield s'=>I s'| .done s'=>I s')):∀(l:List α) (s s':σ),I s→forIn l s f=some s'→I s':=by
 intro l;induction l with
 |nil=>intro s s' h e;simp only[List.forIn_nil,pure,Option.some.injEq]at e;exact e▸h
 |cons a l ih=>
  intro s s' h e;rw[List.forIn_cons]at e;cases hr:f a s with
  |none=>rw[hr]at e;cases e
  |some r=>
   rw[hr]at e;have:=hI a s r h hr;cases r with
   |done x=>simp only[bind,Option.bind,pure,Option.some.injEq]at e;exact e▸this
   |yield x=>exact ih x s' this e
def VW (ρ:Nat→Nat) (i:TypeInfo):Prop:=∀v,i.zero=some v→mv ρ v=v
theorem uP {info:TypeId→Option TypeInfo} (hinfo:∀t i,info t=some i→VW ρ i) {fs:Array Field} {i:TypeInfo} (h:Made.reckonStruct info fs=some i):VW ρ i:=by
 unfold Made.reckonStruct at h;simp only[bind,Option.bind,pure]at h;rw[←Array.forIn_toList]at h;split at h
 ·cases h
 ·rename_i s hs;have inv:=K5 (I:=fun s=>∀z,s.2.2.2.2.2.2.2.1=some z→z.map (mv ρ)=z) ?_ _ _ _ ?_ hs
  ·dsimp only at h;have fin:∀v,Option.map Value.agg s.2.2.2.2.2.2.2.1=some v→mv ρ v=v:=by
    intro v hv;cases hz:s.2.2.2.2.2.2.2.1 with
    |none=>rw[hz]at hv;cases hv
    |some z=>rw[hz]at hv;cases hv;simp[mv,inv z hz]
   split at h
   ·cases h;exact fin
   ·cases h;exact fin
  ·intro a s r hI hr;split at hr
   ·cases hr
   ·rename_i ti hti;dsimp only at hr;have R3:∀z,(if s.2.1+ti.size>Made.mostCells then none else s.2.2.2.2.2.2.2.1.bind fun x=>ti.zero.bind fun y=>some (x++y.cells))=some z→z.map (mv ρ)=z:=by
     intro z hz;split at hz
     ·cases hz
     ·cases h1:s.2.2.2.2.2.2.2.1 with
      |none=>rw[h1]at hz;cases hz
      |some z0=>
       rw[h1]at hz;cases h2:ti.zero with
       |none=>rw[h2]at hz;cases hz
       |some y=>rw[h2]at hz;cases hz;have:=hinfo _ _ (by assumption) y h2;rw[Array.map_append,hI z0 h1, ←iO,this]
    split at hr
    ·cases hr
    split at hr
    ·cases hr
    split at hr
    ·split at hr
     ·cases hr;exact R3
     ·cases hr;exact R3
    ·split at hr
     ·cases hr
     ·dsimp only at hr;split at hr
      ·cases hr;exact R3
      ·cases hr;exact R3
  ·intro z hz;cases hz;simp
theorem E9 {info:TypeId→Option TypeInfo} (hinfo:∀t i,info t=some i→VW ρ i) {d:TypeDesc} {i:TypeInfo} (h:Made.reckon info d=some i):VW ρ i:=by
 cases d<;>simp only[Made.reckon,bind,Option.bind,pure]at h<;>try (cases h;done)
 case struct fs=>exact uP hinfo h
 case array n e=>
  split at h
  ·cases h
  ·rename_i ti hti;dsimp only at h;split at h
   ·cases h
   ·rename_i sp hsp;cases h;intro v hv;simp only at hv;split at hv
    ·cases hv
    ·split at hv
     ·cases hv;simp[mv]
     ·cases hz:ti.zero with
      |none=>rw[hz]at hv;cases hv
      |some z=>
       rw[hz]at hv;cases hv;have:=hinfo _ _ (by assumption) z hz;have hc:z.cells.map (mv ρ)=z.cells:=by rw[←iO,this]
       simp only[mv]
       congr 1
       rw[Array.map_flatten];simp[hc]
 all_goals
  repeat' (split at h<;>(try dsimp only at h))
  all_goals first|(cases h;done)|skip
  all_goals (cases h;intro v hv;cases hv;simp[mv])
theorem ED {Tb:Tables} (h:∀(t:Nat) i,Tb.types[t]? =some i→VW ρ i):∀(n t:Nat) i,Made.infoAt Tb n t=some i→VW ρ i:=by
 intro n;induction n with
 |zero=>intro t i e;cases e
 |succ n ih=>
  intro t i e;simp only[Made.infoAt]at e;split at e
  ·exact h t i e
  ·cases hd:Made.decode (t-Tb.types.size)with
   |none=>rw[hd]at e;cases e
   |some d=>rw[hd]at e;exact E9 ih e
theorem Aq {P:Program} (h:∀(t:Nat) i,P.types[t]? =some i→VW ρ i):∀t i v,P.info? t=some i→i.zero=some v→mv ρ v=v:=by
 intro t i v hi;unfold Tables.info? at hi;split at hi
 ·exact h t i hi v
 ·exact ED h _ _ _ hi v
end Go.Ren
