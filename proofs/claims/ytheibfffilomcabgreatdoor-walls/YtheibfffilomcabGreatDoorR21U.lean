import Derived.Test.YtheibfffilomcabGreatDoorR4U
import Derived.Test.YtheibfffilomcabGreatDoorR18bU
set_option linter.all false
set_option maxHeartbeats 1000000
namespace Go.Ren
set_option linter.unusedSimpArgs false
set_option linter.unusedVariables false
variable {P:Program} {ρ:Nat→Nat} {fs:FuncId→Bool}
def cz (f:Frame) (cs:List Frame) (st:GoStatus):Goroutine:={frame:=f,callers:=cs,status:=st,dying:=none}
def mP:GStep→World
 | .go _ w _=>w
 | .comm _ _ _ _ w _=>w
 | .spawn _ _ w _=>w
 | .count _ w _=>w
 | .timer _ _ w _=>w
 | .alone _ _ w _=>w
 | .newcoro _ _ _ w _=>w
 | .coroswitch _ _ _ w _=>w
 | .collect _ w _=>w
 | .watch _ w _=>w
 | .ended _ w _=>w
def xZ (P:Program) (d:Deferred):Goroutine:=cz {(default:Frame)with fn:=P.funcs.size,defers:=[d],mode:=.panicking [goexitEntry]} [] .running
inductive gB (P:Program) (ρ:Nat→Nat) (fs:FuncId→Bool) (cs cs':List Frame) (V W:World):GStep→GStep→Prop
 |go {f:Frame} {l:List Frame} {st:GoStatus} {V1 W1:World} {es:Array Event}:(st= .running∨st= .blocked)→dZ fs f→(∀x∈l,dZ fs x)→Out ρ V W V1 W1→
   (∀e∈es,mH V1.heap.size e.loc∨(e.loc= .output∧∃ch,f.mode= .panicking ch))→
   gB P ρ fs cs cs' V W (.go (cz f (l++cs) st) V1 es) (.go (cz (dL ρ f) (l.map (dL ρ)++cs') st) W1 (es.map (lK ρ)))
 |spawn {f:Frame} {l:List Frame} {d:Deferred} {V1 W1:World} {es:Array Event}:fs fM=true→dZ fs f→(∀x∈l,dZ fs x)→Out ρ V W V1 W1→(∀e∈es,mH V1.heap.size e.loc)→
   gB P ρ fs cs cs' V W (.spawn (cz f (l++cs) .running) (xZ P d) V1 es) (.spawn (cz (dL ρ f) (l.map (dL ρ)++cs') .running) (xZ P (zV ρ d)) W1 (es.map (lK ρ)))
 |bad {o:Outcome} {V1:World} {es:Array Event} {y:GStep}:gB P ρ fs cs cs' V W (.ended o V1 es) y
def Align (ρ:Nat→Nat) (V W V1:World):Prop:=
 (∀i,V.heap.size+i<V1.heap.size→ρ (V.heap.size+i)=W.heap.size+i)∧(∀i,V.drawn+i<V1.drawn→V.tape (V.drawn+i)=W.tape (W.drawn+i))
theorem mem_seen {fn:FuncId} {es:Array Event} {e:Event} (h:e∈Go.seen P fn es):e∈es:=by
 rw[seen_eq, ←Array.foldl_toList]at h;have key:∀(l:List Event) (x:Bool × Array Event),e∈(l.foldl (seenStep P) x).2→e∈x.2∨e∈l:=by
  intro l;induction l with
  |nil=>intro x hx;exact .inl hx
  |cons a l ih=>
   intro x hx;rcases ih _ hx with h1|h1
   ·unfold seenStep at h1;split at h1
    ·exact .inl h1
    ·simp only at h1;split at h1
     ·exact .inl h1
     ·rcases Array.mem_push.1 h1 with h2|h2
      ·exact .inl h2
      ·exact .inr (by simp[h2])
   ·exact .inr (by simp[h1])
 rcases key es.toList _ h with h1|h1
 ·simp at h1
 ·simpa using h1
theorem zq (fr:Frame) (vs:List PanicEntry):(dL ρ fr).raise (vs.map fun e=>{e with v:=mv ρ e.v})=dL ρ (fr.raise vs):=by obtain⟨fn,tmps,todo,defers,mode,kind,round⟩:=fr;cases mode<;>simp[Frame.raise,dL,gZ]
theorem uO {fr:Frame} (h:dZ fs fr) (vs:List PanicEntry):dZ fs (fr.raise vs):=by obtain⟨fn,tmps,todo,defers,mode,kind,round⟩:=fr;cases mode<;>exact⟨h.todo,h.round,h.defers⟩
theorem raise_mode (fr:Frame) (vs:List PanicEntry):∃ch,(fr.raise vs).mode= .panicking ch:=by obtain⟨fn,tmps,todo,defers,mode,kind,round⟩:=fr;cases mode<;>exact⟨_,rfl⟩
def evs (P:Program) (fr:Frame) (es:Array Event):Array Event:=Go.seen P fr.fn (if fr.kind== .early then #[]else es)
theorem tH (fr:Frame) (es:Array Event):evs P (dL ρ fr) (es.map (lK ρ))=(evs P fr es).map (lK ρ):=by unfold evs;rw[show(dL ρ fr).kind=fr.kind from rfl,show(dL ρ fr).fn=fr.fn from rfl, ←oZ];split<;>simp
theorem kF {fr:Frame} {es:Array Event} {e:Event} (h:e∈evs P fr es):e∈es:=by
 have:=mem_seen h;split at this
 ·simp at this
 ·exact this
section
variable {fr:Frame} {cs:List Frame} {s:Sem Next} {V V1:World} {es:Array Event}
theorem qL {v:Value} (h:s.runT P V #[]=(.ok (.value v) V1,es)):stepG.apply P true fr cs none s V= .go (cz (fr.finish v) cs .running) V1 (evs P fr es):=by simp[stepG.apply,h,GStep.after,evs,cz]
theorem tC (h:s.runT P V #[]=(.ok .skip V1,es)):stepG.apply P true fr cs none s V= .go (cz (fr.finish undef) cs .running) V1 (evs P fr es):=by simp[stepG.apply,h,GStep.after,evs,cz]
theorem qI (hok:dZ fs fr) {f:FuncId} {args:Array Value} (h:s.runT P V #[]=(.ok (.enter f args) V1,es)):
 stepG.apply P true fr cs none s V= .go (cz (Frame.enter P f args .normal) (fr::cs) .running) V1 (evs P fr es):=by
 obtain⟨fn,tmps,todo,defers,mode,kind,round⟩:=fr;cases todo with
 |nil=>simp[stepG.apply,h,GStep.after,evs,cz]
 |cons i k=>have:=hok.todo i (by simp);cases i<;>first|exact Bool.noConfusion this|simp[stepG.apply,h,GStep.after,evs,cz]
theorem wY {d:Deferred} (h:s.runT P V #[]=(.ok (.defer d) V1,es)):stepG.apply P true fr cs none s V= .go (cz ({fr with defers:=d::fr.defers}.finish undef) cs .running) V1 (evs P fr es):=by simp[stepG.apply,h,GStep.after,evs,cz]
theorem qK (hg:P.follows .goNilFatal=false) {d:Deferred} (h:s.runT P V #[]=(.ok (.spawn d) V1,es)):stepG.apply P true fr cs none s V= .spawn (cz (fr.finish undef) cs .running) (xZ P d) V1 (evs P fr es):=by simp[stepG.apply,h,GStep.after,evs,cz,xZ,hg]
theorem qJ {v:Value} (h:s.runT P V #[]=(.halt (.panic v) V1,es)):stepG.apply P true fr cs none s V= .go (cz (fr.raise [{v,recovered:=false}]) cs .running) V1 (evs P fr es):=by simp[stepG.apply,h,GStep.after,evs,cz]
theorem nS (h:s.runT P V #[]=(.halt .blocked V1,es)):stepG.apply P true fr cs none s V= .go (cz fr cs .blocked) V1 (evs P fr #[]):=by simp[stepG.apply,h,GStep.after,evs,cz]
theorem wZ {w:String} (h:s.runT P V #[]=(.halt (.stuck w) V1,es)):∃o x,stepG.apply P true fr cs none s V= .ended o V1 x:=by simp[stepG.apply,h,GStep.after]
theorem w_ {u:Unsupported} (hu:Ky (.unsupported u)) (h:s.runT P V #[]=(.halt (.unsupported u) V1,es)):∃o x,stepG.apply P true fr cs none s V= .ended o V1 x:=by cases u<;>first|exact hu.elim|simp[stepG.apply,h,GStep.after]
end
theorem pM (fr:Frame) (h:∀i∈fr.todo,xQ fs i=true):(dL ρ fr).finish undef=dL ρ (fr.finish undef):=by have:=vJ (ρ:=ρ) fr undef h;rwa[iQ]at this
theorem QK (H:Cf P ρ fs) {s s':Sem Next} (hs:SN P ρ fs s s') {fr:Frame} (hfr:dZ fs fr) {l:List Frame} (hl:∀x∈l,dZ fs x) {cs cs':List Frame} {V W:World} (hw:WR ρ V W)
 (ha:Align ρ V W (mP (stepG.apply P true fr (l++cs) none s V))) (hgo:P.follows .goNilFatal=true→fs fM=false):
 gB P ρ fs cs cs' V W (stepG.apply P true fr (l++cs) none s V) (stepG.apply P true (dL ρ fr) (l.map (dL ρ)++cs') none s' W):=by
 have run:=hs.runT H.inj V W #[] #[] hw;have kinds:=hs.J_ V #[] hw.kg;rcases hr:s.runT P V #[]with⟨r,es⟩;rcases hr':s'.runT P W #[]with⟨r',es'⟩;rw[hr]at run kinds;rw[hr']at run;have Uf:∀{d:Array Event} {V1:World} {r:Result Next},(∀e∈d,mH V1.heap.size e.loc∨(e.loc= .output∧CP r))→¬CP r→∀e∈evs P fr d,mH V1.heap.size e.loc:=
  fun h hn e he=>(h e (kF he)).resolve_right fun x=>hn x.2
 cases r with
 |halt h V1=>
  rcases kinds h V1 rfl with hb|hg
  ·cases h<;>first|exact hb.elim|skip
   ·obtain⟨o,x,e⟩:=w_ (P:=P) (fr:=fr) (cs:=l++cs) hb hr;rw[e];exact .bad
   ·obtain⟨o,x,e⟩:=wZ (P:=P) (fr:=fr) (cs:=l++cs) hr;rw[e];exact .bad
  ·cases h<;>first|exact hg.elim|skip
   ·rename_i v;rw[qJ hr]at ha ⊢;obtain⟨⟨d,e1,e2,e3⟩,res,o⟩:=run ha.1 ha.2 (fun x=>x);simp only[Array.empty_append]at e1 e2;cases r' with
    |ok b W1=>exact res.elim
    |halt h' W1=>obtain⟨rfl,_⟩:=res;rw[e1]at*;rw[e2]at hr';rw[qJ hr',tH];have rm:=zq (ρ:=ρ) fr [{v:=v,recovered:=false}];simp only[List.map_cons,List.map_nil]at rm;rw[rm];exact .go (.inl rfl) (uO hfr _) hl o fun e he=>(e3 e (kF he)).imp id fun x=>⟨x.1,raise_mode _ _⟩
   ·rw[nS hr]at ha ⊢;obtain⟨⟨d,e1,e2,e3⟩,res,o⟩:=run ha.1 ha.2 (fun x=>x);cases r' with
    |ok b W1=>exact res.elim
    |halt h' W1=>
     obtain⟨rfl,_⟩:=res;rw[nS hr'];have e4:evs P (dL ρ fr) #[]=(evs P fr #[]).map (lK ρ):=by have:=tH (P:=P) (ρ:=ρ) fr #[];simpa using this
     rw[e4];exact .go (.inr rfl) hfr hl o fun e he=>by have:=kF he;simp at this
 |ok n V1=>
  have nb:¬GQ (Result.ok n V1):=fun x=>x;have np:¬CP (Result.ok n V1):=fun x=>x;have core:Align ρ V W V1→∃W1 d,es=d∧es'=d.map (lK ρ)∧(∀e∈d,mH V1.heap.size e.loc)∧r'= .ok (za ρ n) W1∧Vj fs n∧Out ρ V W V1 W1:=by
   intro h;obtain⟨⟨d,e1,e2,e3⟩,res,o⟩:=run h.1 h.2 nb;simp only[Array.empty_append]at e1 e2;cases r' with
   |halt h' W1=>exact res.elim
   |ok n' W1=>exact⟨W1,d,e1,e2,fun e he=>(e3 e he).resolve_right fun x=>np x.2,by rw[res.1],res.2,o⟩
  cases n with
  |value v=>rw[qL hr]at ha ⊢;obtain⟨W1,d,rfl,rfl,e3,rfl,_,o⟩:=core ha;rw[qL hr',tH,vJ fr v hfr.todo];exact .go (.inl rfl) (j_ hfr _) hl o fun e he=>.inl (e3 e (kF he))
  |skip=>rw[tC hr]at ha ⊢;obtain⟨W1,d,rfl,rfl,e3,rfl,_,o⟩:=core ha;rw[tC hr',tH,pM fr hfr.todo];exact .go (.inl rfl) (j_ hfr _) hl o fun e he=>.inl (e3 e (kF he))
  |enter f args=>
   rw[qI hfr hr]at ha ⊢;obtain⟨W1,d,rfl,rfl,e3,rfl,hok,o⟩:=core ha;simp only[za]at hr';rw[qI (Rw hfr) hr',tH,yO];have:=gB.go (P:=P) (ρ:=ρ) (fs:=fs) (cs:=cs) (cs':=cs') (V:=V) (W:=W) (f:=Frame.enter P f args .normal) (l:=fr::l) (st:=.running) (es:=evs P fr es) (.inl rfl) (oK H hok args .normal)
    (fun x hx=>by rcases List.mem_cons.1 hx with rfl|hx;exact hfr;exact hl x hx) o (fun e he=>.inl (e3 e (kF he)))
   simpa using this
  |defer d=>rw[wY hr]at ha ⊢;obtain⟨W1,dd,rfl,rfl,e3,rfl,hok,o⟩:=core ha;simp only[za]at hr';rw[wY hr',tH];have hfr2:dZ fs {fr with defers:=d::fr.defers}:=⟨hfr.todo,hfr.round,fun x hx=>by rcases List.mem_cons.1 hx with rfl|hx;exact hok.1;exact hfr.defers x hx⟩;have:=pM (ρ:=ρ) (fs:=fs) {fr with defers:=d::fr.defers} hfr.todo;rw[show({dL ρ fr with defers:=zV ρ d::(dL ρ fr).defers}:Frame)=dL ρ {fr with defers:=d::fr.defers} from rfl,this];exact .go (.inl rfl) (j_ hfr2 _) hl o fun e he=>.inl (e3 e (kF he))
  |spawn d=>
   have hgo:P.follows .goNilFatal=false:=by
    obtain⟨b,hb⟩:=hs.oks V #[] _ _ (by rw[hr]);have h2:fs fM=true:=hb.2;cases h:P.follows .goNilFatal with
    |false=>rfl
    |true=>rw[hgo h]at h2;cases h2
   rw[qK hgo hr]at ha ⊢;obtain⟨W1,dd,rfl,rfl,e3,rfl,hok,o⟩:=core ha;simp only[za]at hr';rw[qK hgo hr',tH,pM fr hfr.todo];exact .spawn hok (j_ hfr _) hl o fun e he=>e3 e (kF he)
  |_=>obtain⟨b,hb⟩:=hs.oks V #[] _ _ (by rw[hr]);exact hb.2.elim
end Go.Ren
namespace Go.Ren
set_option linter.unusedSimpArgs false
set_option linter.unusedVariables false
variable {P:Program} {ρ:Nat→Nat} {fs:FuncId→Bool} {cs cs' l:List Frame} {V W:World}
theorem BL {f:Frame} (hw:WR ρ V W) (hf:dZ fs f) (hl:∀x∈l,dZ fs x):
 gB P ρ fs cs cs' V W (.go (cz f (l++cs) .running) V) (.go (cz (dL ρ f) (l.map (dL ρ)++cs') .running) W):=by
 have:=gB.go (P:=P) (ρ:=ρ) (fs:=fs) (cs:=cs) (cs':=cs') (V:=V) (W:=W) (f:=f) (l:=l) (st:=.running) (es:=#[]) (.inl rfl) hf hl (.refl hw) (by simp);simpa using this
theorem Bc {id:Nat}:∀{k k':List Item},(∀i∈k,xQ fs i=true)→exitTo id k=some k'→∀i∈k',xQ fs i=true:=by
 intro k;induction k with
 |nil=>intro k' h e;simp[exitTo]at e
 |cons x k ih=>
  intro k' h e;have hk:∀i∈k,xQ fs i=true:=fun i hi=>h i (by simp[hi]);cases x<;>simp only[exitTo]at e<;>try exact ih hk e;split at e
  ·cases e;exact hk
  ·exact ih hk e
theorem Cv {n:Nat}:∀{c c':Code},x8 fs c=true→findLabel c n=some c'→x8 fs c'=true:=by
 intro c;induction c with
 |seq a b iha ihb=>
  intro c' h e;simp only[x8,Bool.and_eq_true]at h;simp only[findLabel]at e;split at e
  ·rename_i r hr;cases e;simp only[x8,Bool.and_eq_true];exact⟨iha h.1 hr,h.2⟩
  ·exact ihb h.2 e
 |label m=>
  intro c' h e;simp only[findLabel]at e;split at e
  ·cases e;rfl
  ·cases e
 |_=>intro c' h e;simp[findLabel]at e
theorem Bg {n:Nat}:∀{k k':List Item},(∀i∈k,xQ fs i=true)→gotoIn n k=some k'→∀i∈k',xQ fs i=true:=by
 intro k;induction k with
 |nil=>intro k' h e;simp[gotoIn]at e
 |cons x k ih=>
  intro k' h e;have hk:∀i∈k,xQ fs i=true:=fun i hi=>h i (by simp[hi]);cases x<;>simp only[gotoIn]at e<;>try exact ih hk e;rename_i body;have hb:x8 fs body=true:=h (.inScope body) (by simp);split at e
  ·rename_i r hr;cases e;intro i hi;simp only[List.mem_cons]at hi;rcases hi with rfl|rfl|hi
   ·exact Cv hb hr
   ·exact hb
   ·exact hk i hi
  ·exact ih hk e
theorem Ug (H:Cf P ρ fs) (hgo:P.follows .goNilFatal=true→fs fM=false) {main main':Bool} {fr:Frame} (hfr:dZ fs fr) (hl:∀x∈l,dZ fs x) (hw:WR ρ V W)
 (ha:Align ρ V W (mP (stepG.exec P main true fr (l++cs) none V))):
 gB P ρ fs cs cs' V W (stepG.exec P main true fr (l++cs) none V) (stepG.exec P main' true (dL ρ fr) (l.map (dL ρ)++cs') none W):=by
 have hev:=JX H fr;obtain⟨fn,tmps,todo,defers,mode,kind,round⟩:=fr;have Ht:round=none:=hfr.round;subst Ht;have go:∀(t:List Item) (m:FrameMode),(∀i∈t,xQ fs i=true)→gB P ρ fs cs cs' V W (.go (cz {fn:=fn,tmps:=tmps,todo:=t,defers:=defers,mode:=m,kind:=kind,roundOf:=none} (l++cs) .running) V)
  (.go (cz (dL ρ {fn:=fn,tmps:=tmps,todo:=t,defers:=defers,mode:=m,kind:=kind,roundOf:=none}) (l.map (dL ρ)++cs') .running) W):=
  fun t m ht=>BL hw ⟨ht,rfl,hfr.defers⟩ hl
 cases todo with
 |nil=>exact go [] .returning (by simp)
 |cons i k=>
  have hi:=hfr.todo i (by simp);have hk:∀i∈k,xQ fs i=true:=fun x hx=>hfr.todo x (by simp[hx]);have two:∀{a b:Item},xQ fs a=true→xQ fs b=true→∀i∈a::b::k,xQ fs i=true:=by
   intro a b h1 h2 i hi;simp only[List.mem_cons]at hi;rcases hi with rfl|rfl|hi
   ·exact h1
   ·exact h2
   ·exact hk i hi
  cases i with
  |inBlock id=>exact go k mode hk
  |inScope b=>exact go k mode hk
  |inLoop b=>exact go (.code b:: .inLoop b::k) mode (two hi hi)
  |inRegion ops todo=>
   cases todo with
   |nil=>exact go k mode hk
   |cons j rest=>
    have hwant:((ops[j]?).map (Region.wanted · (yielded ops (tmps.map (mv ρ))))).getD false=((ops[j]?).map (Region.wanted · (yielded ops tmps))).getD false:=by rw[show yielded ops (tmps.map (mv ρ))=yielded ops tmps from funext fun x=>Jk ops tmps x]
    cases hq:((ops[j]?).map (Region.wanted · (yielded ops tmps))).getD false with
    |false=>
     rw[hq]at hwant;have e1:stepG.exec P main true {fn:=fn,tmps:=tmps,todo:=.inRegion ops (j::rest)::k,defers:=defers,mode:=mode,kind:=kind} (l++cs) none V= .go (cz (({fn:=fn,tmps:=tmps,todo:=.inRegion ops (j::rest)::k,defers:=defers,mode:=mode,kind:=kind}:Frame).finish undef) (l++cs) .running) V:=by simp only[stepG.exec,hq];rfl
     have e2:stepG.exec P main' true (dL ρ {fn:=fn,tmps:=tmps,todo:=.inRegion ops (j::rest)::k,defers:=defers,mode:=mode,kind:=kind}) (l.map (dL ρ)++cs') none W= .go (cz ((dL ρ {fn:=fn,tmps:=tmps,todo:=.inRegion ops (j::rest)::k,defers:=defers,mode:=mode,kind:=kind}).finish undef) (l.map (dL ρ)++cs') .running) W:=by simp only[stepG.exec,dL,hwant];rfl
     rw[e1,e2,pM _ hfr.todo];exact BL hw (j_ hfr _) hl
    |true=>
     rw[hq]at hwant;cases ho:ops[j]? with
     |none=>rw[ho]at hq;cases hq
     |some o=>
      rw[ho]at hq hwant;have hoo:vQ fs o.op=true:=by simp only[xQ,Array.all_eq_true']at hi;exact hi o (Array.mem_of_getElem? ho)
      have e1:stepG.exec P main true {fn:=fn,tmps:=tmps,todo:=.inRegion ops (j::rest)::k,defers:=defers,mode:=mode,kind:=kind} (l++cs) none V=stepG.apply P true {fn:=fn,tmps:=tmps,todo:=.inRegion ops (j::rest)::k,defers:=defers,mode:=mode,kind:=kind} (l++cs) none (execOp ({fn:=fn,tmps:=tmps,todo:=.inRegion ops (j::rest)::k,defers:=defers,mode:=mode,kind:=kind}:Frame).eval o) V:=by simp only[stepG.exec,ho,hq, ↓reduceIte,stepG.oper,Frame.oper?]
      have e2:stepG.exec P main' true (dL ρ {fn:=fn,tmps:=tmps,todo:=.inRegion ops (j::rest)::k,defers:=defers,mode:=mode,kind:=kind}) (l.map (dL ρ)++cs') none W=stepG.apply P true (dL ρ {fn:=fn,tmps:=tmps,todo:=.inRegion ops (j::rest)::k,defers:=defers,mode:=mode,kind:=kind}) (l.map (dL ρ)++cs') none (execOp (dL ρ {fn:=fn,tmps:=tmps,todo:=.inRegion ops (j::rest)::k,defers:=defers,mode:=mode,kind:=kind}).eval o) W:=by simp only[stepG.exec,dL,ho,hwant, ↓reduceIte,stepG.oper,Frame.oper?]
      rw[e1]at ha ⊢;rw[e2];exact QK H (vZ H.S_ H.calls hev o hoo) hfr hl hw ha hgo
  |code c=>
   cases c with
   |skip=>exact go k mode hk
   |label n=>exact go k mode hk
   |ret=>exact go (.code .ret::k) .returning (fun i hi'=>by simp only[List.mem_cons]at hi';rcases hi' with rfl|h;rfl;exact hk i h)
   |seq a b=>simp only[xQ,x8,Bool.and_eq_true]at hi;exact go (.code a:: .code b::k) mode (two hi.1 hi.2)
   |block id b=>exact go (.code b:: .inBlock id::k) mode (two hi rfl)
   |loop b=>exact go (.code b:: .inLoop b::k) mode (two hi hi)
   |scope b=>exact go (.code b:: .inScope b::k) mode (two hi hi)
   |refuse w=>exact .bad
   |rangeFunc=>exact Bool.noConfusion hi
   |cond c a b=>
    simp only[xQ,x8,Bool.and_eq_true]at hi;have e:=hev.ok c hi.1.1;have one:∀{x:Code},x8 fs x=true→∀i∈Item.code x::k,xQ fs i=true:=by
     intro x hx i hi';simp only[List.mem_cons]at hi';rcases hi' with rfl|h
     ·exact hx
     ·exact hk i h
    cases hv:({fn:=fn,tmps:=tmps,todo:=.code (.cond c a b)::k,defers:=defers,mode:=mode,kind:=kind}:Frame).eval c with
    |bool t=>
     rw[hv]at e;simp only[mv]at e;have e1:stepG.exec P main true {fn:=fn,tmps:=tmps,todo:=.code (.cond c a b)::k,defers:=defers,mode:=mode,kind:=kind} (l++cs) none V= .go (cz {fn:=fn,tmps:=tmps,todo:=.code (if t then a else b)::k,defers:=defers,mode:=mode,kind:=kind} (l++cs) .running) V:=by simp only[stepG.exec,hv];rfl
     have e2:stepG.exec P main' true (dL ρ {fn:=fn,tmps:=tmps,todo:=.code (.cond c a b)::k,defers:=defers,mode:=mode,kind:=kind}) (l.map (dL ρ)++cs') none W= .go (cz (dL ρ {fn:=fn,tmps:=tmps,todo:=.code (if t then a else b)::k,defers:=defers,mode:=mode,kind:=kind}) (l.map (dL ρ)++cs') .running) W:=by simp only[dL]at e;simp only[stepG.exec,dL,e];rfl
     rw[e1,e2];refine go _ mode (one ?_);cases t
     ·exact hi.2
     ·exact hi.1.2
    |_=>
     have e1:∃o x,stepG.exec P main true {fn:=fn,tmps:=tmps,todo:=.code (.cond c a b)::k,defers:=defers,mode:=mode,kind:=kind} (l++cs) none V= .ended o V x:=by simp only[stepG.exec,hv];exact⟨_,_,rfl⟩
     obtain⟨o,x,e1⟩:=e1;rw[e1];exact .bad
   |exit id=>
    cases he:exitTo id k with
    |some k'=>
     have e1:stepG.exec P main true {fn:=fn,tmps:=tmps,todo:=.code (.exit id)::k,defers:=defers,mode:=mode,kind:=kind} (l++cs) none V= .go (cz {fn:=fn,tmps:=tmps,todo:=k',defers:=defers,mode:=mode,kind:=kind} (l++cs) .running) V:=by simp only[stepG.exec,he];rfl
     have e2:stepG.exec P main' true (dL ρ {fn:=fn,tmps:=tmps,todo:=.code (.exit id)::k,defers:=defers,mode:=mode,kind:=kind}) (l.map (dL ρ)++cs') none W= .go (cz (dL ρ {fn:=fn,tmps:=tmps,todo:=k',defers:=defers,mode:=mode,kind:=kind}) (l.map (dL ρ)++cs') .running) W:=by simp only[stepG.exec,dL,he];rfl
     rw[e1,e2];exact go k' mode (Bc hk he)
    |none=>
     have e1:∃o x,stepG.exec P main true {fn:=fn,tmps:=tmps,todo:=.code (.exit id)::k,defers:=defers,mode:=mode,kind:=kind} (l++cs) none V= .ended o V x:=by simp only[stepG.exec,he];exact⟨_,_,rfl⟩
     obtain⟨o,x,e1⟩:=e1;rw[e1];exact .bad
   |goto n=>
    cases he:gotoIn n k with
    |some k'=>
     have e1:stepG.exec P main true {fn:=fn,tmps:=tmps,todo:=.code (.goto n)::k,defers:=defers,mode:=mode,kind:=kind} (l++cs) none V= .go (cz {fn:=fn,tmps:=tmps,todo:=k',defers:=defers,mode:=mode,kind:=kind} (l++cs) .running) V:=by simp only[stepG.exec,he];rfl
     have e2:stepG.exec P main' true (dL ρ {fn:=fn,tmps:=tmps,todo:=.code (.goto n)::k,defers:=defers,mode:=mode,kind:=kind}) (l.map (dL ρ)++cs') none W= .go (cz (dL ρ {fn:=fn,tmps:=tmps,todo:=k',defers:=defers,mode:=mode,kind:=kind}) (l.map (dL ρ)++cs') .running) W:=by simp only[stepG.exec,dL,he];rfl
     rw[e1,e2];exact go k' mode (Bg hk he)
    |none=>
     have e1:∃o x,stepG.exec P main true {fn:=fn,tmps:=tmps,todo:=.code (.goto n)::k,defers:=defers,mode:=mode,kind:=kind} (l++cs) none V= .ended o V x:=by simp only[stepG.exec,he];exact⟨_,_,rfl⟩
     obtain⟨o,x,e1⟩:=e1;rw[e1];exact .bad
   |region id ops draw=>
    have reg:∀t:List Nat,∀i∈Item.inRegion ops t::k,xQ fs i=true:=by
     intro t i hi';simp only[List.mem_cons]at hi';rcases hi' with rfl|h
     ·exact hi
     ·exact hk i h
    cases draw with
    |false=>exact go (.inRegion ops (List.range ops.size)::k) mode (reg _)
    |true=>
     have e1:stepG.exec P main true {fn:=fn,tmps:=tmps,todo:=.code (.region id ops true)::k,defers:=defers,mode:=mode,kind:=kind} (l++cs) none V=
      .go (cz {fn:=fn,tmps:=tmps,todo:=.inRegion ops (Region.schedule (P.follows .mixedOrders) ops (V.tape V.drawn (.order fn id)))::k,defers:=defers,mode:=mode,kind:=kind} (l++cs) .running) {V with drawn:=V.drawn+1}:=by
      simp[stepG.exec,choose,Sem.run,Question.forced,Question.cut,cz]
     have e2:stepG.exec P main' true (dL ρ {fn:=fn,tmps:=tmps,todo:=.code (.region id ops true)::k,defers:=defers,mode:=mode,kind:=kind}) (l.map (dL ρ)++cs') none W=
      .go (cz (dL ρ {fn:=fn,tmps:=tmps,todo:=.inRegion ops (Region.schedule (P.follows .mixedOrders) ops (W.tape W.drawn (.order fn id)))::k,defers:=defers,mode:=mode,kind:=kind}) (l.map (dL ρ)++cs') .running) {W with drawn:=W.drawn+1}:=by
      simp[stepG.exec,choose,Sem.run,Question.forced,Question.cut,cz,dL]
     rw[e1]at ha ⊢;rw[e2];have et:V.tape V.drawn=W.tape W.drawn:=by simpa using ha.2 0 (by simp[mP])
     rw[←et];have oc:Out ρ V W {V with drawn:=V.drawn+1} {W with drawn:=W.drawn+1}:=
      ⟨⟨hw.eq,hw.kg,hw.os⟩,rfl,by simp;omega,rfl,rfl,rfl,fun _ _ _=>rfl,Nat.le_refl _,by simp,rfl,fun x h1 h2=>by simp at h2;omega,rfl⟩
     have:=gB.go (P:=P) (ρ:=ρ) (fs:=fs) (cs:=cs) (cs':=cs') (V:=V) (W:=W) (f:={fn:=fn,tmps:=tmps,todo:=.inRegion ops (Region.schedule (P.follows .mixedOrders) ops (V.tape V.drawn (.order fn id)))::k,defers:=defers,mode:=mode,kind:=kind}) (l:=l) (st:=.running) (es:=#[]) (.inl rfl) ⟨reg _,rfl,hfr.defers⟩ hl oc (by simp);simpa using this
  |_=>exact Bool.noConfusion hi
end Go.Ren
namespace Go.Ren
set_option linter.unusedSimpArgs false
set_option linter.unusedVariables false
variable {P:Program} {ρ:Nat→Nat} {fs:FuncId→Bool} {cs cs' l:List Frame} {V W:World}
theorem Cy (tmps:Array Value) (t:Nat):(tmps.map (mv ρ)).getD t undef=mv ρ (tmps.getD t undef):=by
 simp only[Array.getD_eq_getD_getElem?,Array.getElem?_map];cases tmps[t]? with
 |none=>simp[iQ]
 |some v=>rfl
theorem zJ (fn:Func) (tmps:Array Value):SV P ρ (results fn tmps) (results fn (tmps.map (mv ρ))):=by
 unfold results;rw[Array.mapM_eq_mapM_toList,Array.mapM_eq_mapM_toList];have key:∀l:List ResultVar,SR P ρ (fun(c c':List Value)=>c'=c.map (mv ρ))
  (l.mapM fun| .tmp t=>Pure.pure (tmps.getD t undef)| .cell a t=>do loadVar t (←asAddr (tmps.getD a undef)))
  (l.mapM fun| .tmp t=>Pure.pure ((tmps.map (mv ρ)).getD t undef)| .cell a t=>do loadVar t (←asAddr ((tmps.map (mv ρ)).getD a undef))):=by
  intro l;induction l with
  |nil=>exact af rfl
  |cons x l ih=>
   rw[List.mapM_cons,List.mapM_cons];refine SR.kZ ?_ fun v=>SR.bnd ih fun c c' e=>af (by rw[e];rfl);cases x with
   |tmp t=>exact af (Cy _ _)
   |cell a t=>dsimp only;rw[Cy];exact SR.bnd (BI _) fun x x' e=>by rw[e];exact zH _ _
 refine SR.bnd (SR.bnd (key fn.results.toList) (T:=fun(c c':Array Value)=>c'=c.map (mv ρ)) fun c c' e=>af (by rw[e];simp)) fun c c' e=>af ?_;subst e;by_cases h:c.size=1
 ·simp[h]
 ·simp[h,mv]
def backTo (c:Frame):Frame:=
 match c.mode with
 | .panicking ({recovered:=true, .. }::older)=>(match older.dropWhile (!·.goexit)with
   | []=>{c with mode:=.returning}
   |rest=>{c with mode:=.panicking rest})
 |_=>c
theorem KO (c:Frame):backTo (dL ρ c)=dL ρ (backTo c):=by
 obtain⟨fn,tmps,todo,defers,mode,kind,round⟩:=c;cases mode with
 |run=>rfl
 |returning=>rfl
 |panicking ch=>
  cases ch with
  |nil=>rfl
  |cons e older=>
   obtain⟨v,rec,gx⟩:=e;cases rec with
   |false=>rfl
   |true=>
    have hd:∀l:List PanicEntry,(l.map fun e=>({e with v:=mv ρ e.v}:PanicEntry)).dropWhile (!·.goexit)=(l.dropWhile (!·.goexit)).map fun e=>{e with v:=mv ρ e.v}:=by
     intro l;induction l with
     |nil=>rfl
     |cons x l ih=>
      obtain⟨xv,xr,xg⟩:=x;cases xg with
      |true=>simp[List.dropWhile_cons]
      |false=>simpa[List.dropWhile_cons]using ih
    simp only[backTo,dL,gZ,List.map_cons,hd];cases older.dropWhile (!·.goexit)with
    |nil=>rfl
    |cons y ys=>rfl
theorem AZ {c:Frame} (h:dZ fs c):dZ fs (backTo c):=by
 obtain⟨fn,tmps,todo,defers,mode,kind,round⟩:=c;unfold backTo;split
 ·split<;>exact⟨h.todo,h.round,h.defers⟩
 ·exact h
theorem yL {main main':Bool} {fr c:Frame} (hc:dZ fs c) (hl:∀x∈l,dZ fs x) (hw:WR ρ V W) (v:Value):
 gB P ρ fs cs cs' V W (doReturn P main fr (c::l++cs) none v V) (doReturn P main' (dL ρ fr) (dL ρ c::l.map (dL ρ)++cs') none (mv ρ v) W):=by
 obtain⟨fn,tmps,todo,defers,mode,kind,round⟩:=fr;have norm:gB P ρ fs cs cs' V W (.go (cz (c.finish v) (l++cs) .running) V) (.go (cz ((dL ρ c).finish (mv ρ v)) (l.map (dL ρ)++cs') .running) W):=by rw[vJ c v hc.todo];exact BL hw (j_ hc v) hl
 have other:gB P ρ fs cs cs' V W (.go (cz (backTo c) (l++cs) .running) V) (.go (cz (backTo (dL ρ c)) (l.map (dL ρ)++cs') .running) W):=by rw[KO];exact BL hw (AZ hc) hl
 cases kind with
 |normal=>exact norm
 |wrapped=>exact norm
 |early=>exact BL hw hc hl
 |deferred=>exact other
 |report=>exact other
section
variable {fr:Frame} {Qq:List Frame} {d:Deferred} {V1:World} {es:Array Event}
theorem Ei (hd:okD fs d) {f:FuncId} {args:Array Value} (h:(invoke d.target d.args).runT P V #[]=(.ok (.enter f args) V1,es)):
 callDeferred P fr Qq none d V= .go (cz (Frame.enter P f args .deferred) (fr::Qq) .running) V1 (Go.seen P fr.fn es):=by
 obtain⟨t,a⟩:=d;cases t<;>first|exact False.elim hd|skip
 simp[callDeferred,h,GStep.after,cz]
theorem El (hd:okD fs d) {n:Next} (hn:Vj fs n) (hne:∀f a,n≠ .enter f a) (h:(invoke d.target d.args).runT P V #[]=(.ok n V1,es)):
 callDeferred P fr Qq none d V= .go (cz fr Qq .running) V1 (Go.seen P fr.fn es):=by
 obtain⟨t,a⟩:=d;cases t<;>first|exact False.elim hd|skip
 cases n<;>first|exact False.elim hn|exact absurd rfl (hne _ _)|simp[callDeferred,h,GStep.after,cz]
theorem Ej (hd:okD fs d) {v:Value} (h:(invoke d.target d.args).runT P V #[]=(.halt (.panic v) V1,es)):
 callDeferred P fr Qq none d V= .go (cz (fr.raise [{v,recovered:=false}]) Qq .running) V1 (Go.seen P fr.fn es):=by
 obtain⟨t,a⟩:=d;cases t<;>first|exact False.elim hd|skip
 simp[callDeferred,h,GStep.after,cz]
theorem yI (hd:okD fs d) (h:(invoke d.target d.args).runT P V #[]=(.halt .blocked V1,es)):
 callDeferred P fr Qq none d V= .go (cz {fr with defers:=d::fr.defers} Qq .blocked) V1 (Go.seen P fr.fn #[]):=by
 obtain⟨t,a⟩:=d;cases t<;>first|exact False.elim hd|skip
 simp[callDeferred,h,GStep.after,cz]
theorem TN (hd:okD fs d) {x:Halt} (hb:Ky x) (h:(invoke d.target d.args).runT P V #[]=(.halt x V1,es)):∃o y,callDeferred P fr Qq none d V= .ended o V1 y:=by
 obtain⟨t,a⟩:=d;cases t<;>first|exact False.elim hd|skip
 cases x<;>first|exact hb.elim|simp[callDeferred,h,GStep.after]
end
theorem Mk (H:Cf P ρ fs) {d:Deferred} (hd:okD fs d):SN P ρ fs (invoke d.target d.args) (invoke (zV ρ d).target (zV ρ d).args):=by
 obtain⟨t,a⟩:=d;cases t with
 |fn f c=>cases f with
  |func g=>have:=H.calls g hd (a++c);rw[Array.map_append]at this;exact this
  |_=>exact False.elim hd
 |_=>exact False.elim hd
theorem GV (H:Cf P ρ fs) {fr:Frame} {d:Deferred} (hfr:dZ fs fr) (hd:okD fs d) (hl:∀x∈l,dZ fs x) (hw:WR ρ V W)
 (ha:Align ρ V W (mP (callDeferred P fr (l++cs) none d V))):
 gB P ρ fs cs cs' V W (callDeferred P fr (l++cs) none d V) (callDeferred P (dL ρ fr) (l.map (dL ρ)++cs') none (zV ρ d) W):=by
 have hs:=Mk H hd;have hd':okD fs (zV ρ d):=Ie hd;have run:=hs.runT H.inj V W #[] #[] hw;have kinds:=hs.J_ V #[] hw.kg;rcases hr:(invoke d.target d.args).runT P V #[]with⟨r,es⟩;rcases hr':(invoke (zV ρ d).target (zV ρ d).args).runT P W #[]with⟨r',es'⟩;rw[hr]at run kinds;rw[hr']at run;cases r with
 |halt h V1=>
  rcases kinds h V1 rfl with hb|hg
  ·obtain⟨o,x,e⟩:=TN (fr:=fr) (Qq:=l++cs) hd hb hr;rw[e];exact .bad
  ·cases h<;>first|exact hg.elim|skip
   ·rename_i v;rw[Ej hd hr]at ha ⊢;obtain⟨⟨x,e1,e2,e3⟩,res,o⟩:=run ha.1 ha.2 (fun x=>x);simp only[Array.empty_append]at e1 e2;cases r' with
    |ok b W1=>exact res.elim
    |halt h' W1=>obtain⟨rfl,_⟩:=res;rw[e1]at*;rw[e2]at hr';rw[Ej hd' hr',show(dL ρ fr).fn=fr.fn from rfl,oZ];have rm:=zq (ρ:=ρ) fr [{v:=v,recovered:=false}];simp only[List.map_cons,List.map_nil]at rm;rw[rm];exact .go (.inl rfl) (uO hfr _) hl o fun e he=>(e3 e (mem_seen he)).imp id fun x=>⟨x.1,raise_mode _ _⟩
   ·rw[yI hd hr]at ha ⊢;obtain⟨⟨x,e1,e2,e3⟩,res,o⟩:=run ha.1 ha.2 (fun x=>x);cases r' with
    |ok b W1=>exact res.elim
    |halt h' W1=>
     obtain⟨rfl,_⟩:=res;rw[yI hd' hr',show(dL ρ fr).fn=fr.fn from rfl];have e4:Go.seen P fr.fn #[]=(Go.seen P fr.fn #[]).map (lK ρ):=by have:=oZ (P:=P) (ρ:=ρ) fr.fn #[];simpa using this
     rw[e4];have:=gB.go (P:=P) (ρ:=ρ) (fs:=fs) (cs:=cs) (cs':=cs') (V:=V) (W:=W) (f:={fr with defers:=d::fr.defers}) (l:=l) (st:=.blocked) (es:=Go.seen P fr.fn #[]) (.inr rfl)
      ⟨hfr.todo,hfr.round,fun x hx=>by rcases List.mem_cons.1 hx with rfl|hx;exact hd;exact hfr.defers x hx⟩ hl o (fun e he=>by have:=mem_seen he;simp at this)
     rw[←e4]at this ⊢;exact this
 |ok n V1=>
  have core:Align ρ V W V1→∃W1,es'=es.map (lK ρ)∧(∀e∈es,mH V1.heap.size e.loc)∧r'= .ok (za ρ n) W1∧Vj fs n∧Out ρ V W V1 W1:=by
   intro h;obtain⟨⟨x,e1,e2,e3⟩,res,o⟩:=run h.1 h.2 (fun x=>x);simp only[Array.empty_append]at e1 e2;subst e1;cases r' with
   |halt h' W1=>exact res.elim
   |ok n' W1=>exact⟨W1,e2,fun e he=>(e3 e he).resolve_right fun x=>x.2,by rw[res.1],res.2,o⟩
  have hok:Vj fs n:=by obtain⟨b,hb⟩:=hs.oks V #[] _ _ (by rw[hr]);exact hb.2
  have val:(∀f a,n≠ .enter f a)→(∀f a,za ρ n≠ .enter f a)→Vj fs (za ρ n)→gB P ρ fs cs cs' V W (callDeferred P fr (l++cs) none d V) (callDeferred P (dL ρ fr) (l.map (dL ρ)++cs') none (zV ρ d) W):=by intro hne hne' hok';rw[El hd hok hne hr]at ha ⊢;obtain⟨W1,rfl,e3,rfl,_,o⟩:=core ha;rw[El hd' hok' hne' hr',show(dL ρ fr).fn=fr.fn from rfl,oZ];exact .go (.inl rfl) hfr hl o fun e he=>.inl (e3 e (mem_seen he))
  cases n with
  |enter f args=>
   rw[Ei hd hr]at ha ⊢;obtain⟨W1,rfl,e3,rfl,_,o⟩:=core ha;simp only[za]at hr';rw[Ei hd' hr',show(dL ρ fr).fn=fr.fn from rfl,oZ,yO];have:=gB.go (P:=P) (ρ:=ρ) (fs:=fs) (cs:=cs) (cs':=cs') (V:=V) (W:=W) (f:=Frame.enter P f args .deferred) (l:=fr::l) (st:=.running) (es:=Go.seen P fr.fn es) (.inl rfl) (oK H hok args .deferred)
    (fun x hx=>by rcases List.mem_cons.1 hx with rfl|hx;exact hfr;exact hl x hx) o (fun e he=>.inl (e3 e (mem_seen he)))
   simpa using this
  |value v=>exact val (by simp) (by simp[za]) trivial
  |skip=>exact val (by simp) (by simp[za]) trivial
  |spawn x=>exact val (by simp) (by simp[za]) hok
  |defer x=>exact val (by simp) (by simp[za]) ⟨Ie hok.1,hok.2⟩
  |_=>exact hok.elim
end Go.Ren
