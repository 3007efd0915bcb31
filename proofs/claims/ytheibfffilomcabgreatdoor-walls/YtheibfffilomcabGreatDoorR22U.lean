import Derived.Test.YtheibfffilomcabGreatDoorR20U
set_option linter.all false
namespace Go.Ren
set_option linter.unusedSimpArgs false
set_option linter.unusedVariables false
variable {P:Program} {ρ:Nat→Nat} {fs:FuncId→Bool} {cs cs' l:List Frame} {V W:World}
theorem Cw (tmps:Array Value) (t:Nat):(tmps.map (mv ρ)).getD t undef=mv ρ (tmps.getD t undef):=by
 simp only[Array.getD_eq_getD_getElem?,Array.getElem?_map];cases tmps[t]? with
 |none=>simp[iQ]
 |some v=>rfl
theorem zJ (fn:Func) (tmps:Array Value):SV P ρ (results fn tmps) (results fn (tmps.map (mv ρ))):=by
 unfold results;rw[Array.mapM_eq_mapM_toList,Array.mapM_eq_mapM_toList];have key:∀l:List ResultVar,SR P ρ (fun(c c':List Value)=>c'=c.map (mv ρ))
  (l.mapM fun| .tmp t=>Pure.pure (tmps.getD t undef)| .cell a t=>do loadVar t (←asAddr (tmps.getD a undef)))
  (l.mapM fun| .tmp t=>Pure.pure ((tmps.map (mv ρ)).getD t undef)| .cell a t=>do loadVar t (←asAddr ((tmps.map (mv ρ)).getD a undef))):=by
  intro l;induction l with
  |nil=>exact af rfl
  |cons x l ih=>
   rw[List.mapM_cons,List.mapM_cons];refine SR.kZ ?_ fun v=>SR.bnd ih fun c c' e=>af (by rw[e];rfl);cases x with
   |tmp t=>exact af (Cw _ _)
   |cell a t=>dsimp only;rw[Cw];exact SR.bnd (BH _) fun x x' e=>by rw[e];exact zH _ _
 refine SR.bnd (SR.bnd (key fn.results.toList) (T:=fun(c c':Array Value)=>c'=c.map (mv ρ)) fun c c' e=>af (by rw[e];simp)) fun c c' e=>af ?_;subst e;by_cases h:c.size=1
 ·simp[h]
 ·simp[h,mv]
def backTo (c:Frame):Frame:=
 match c.mode with
 | .panicking ({recovered:=true, .. }::older)=>(match older.dropWhile (!·.goexit)with
   | []=>{c with mode:=.returning}
   |rest=>{c with mode:=.panicking rest})
 |_=>c
theorem KL (c:Frame):backTo (dL ρ c)=dL ρ (backTo c):=by
 obtain⟨fn,tmps,todo,defers,mode,kind,round⟩:=c;cases mode with
 |run=>rfl
 |returning=>rfl
 |panicking ch=>
  cases ch with
  |nil=>rfl
  |cons e older=>
   obtain⟨v,rec,gx⟩:=e;cases rec with
   |false=>rfl
   |true=>
    have hd:∀l:List PanicEntry,(l.map fun e=>({e with v:=mv ρ e.v}:PanicEntry)).dropWhile (!·.goexit)=(l.dropWhile (!·.goexit)).map fun e=>{e with v:=mv ρ e.v}:=by
     intro l;induction l with
     |nil=>rfl
     |cons x l ih=>
      obtain⟨xv,xr,xg⟩:=x;cases xg with
      |true=>simp[List.dropWhile_cons]
      |false=>simpa[List.dropWhile_cons]using ih
    simp only[backTo,dL,gZ,List.map_cons,hd];cases older.dropWhile (!·.goexit)with
    |nil=>rfl
    |cons y ys=>rfl
theorem AY {c:Frame} (h:dZ fs c):dZ fs (backTo c):=by
 obtain⟨fn,tmps,todo,defers,mode,kind,round⟩:=c;unfold backTo;split
 ·split<;>exact⟨h.todo,h.round,h.defers⟩
 ·exact h
theorem yL {main main':Bool} {fr c:Frame} (hc:dZ fs c) (hl:∀x∈l,dZ fs x) (hw:WR ρ V W) (v:Value):
 gB P ρ fs cs cs' V W (doReturn P main fr (c::l++cs) none v V) (doReturn P main' (dL ρ fr) (dL ρ c::l.map (dL ρ)++cs') none (mv ρ v) W):=by
 obtain⟨fn,tmps,todo,defers,mode,kind,round⟩:=fr;have norm:gB P ρ fs cs cs' V W (.go (cz (c.finish v) (l++cs) .running) V) (.go (cz ((dL ρ c).finish (mv ρ v)) (l.map (dL ρ)++cs') .running) W):=by rw[vJ c v hc.todo];exact BJ hw (j_ hc v) hl
 have other:gB P ρ fs cs cs' V W (.go (cz (backTo c) (l++cs) .running) V) (.go (cz (backTo (dL ρ c)) (l.map (dL ρ)++cs') .running) W):=by rw[KL];exact BJ hw (AY hc) hl
 cases kind with
 |normal=>exact norm
 |wrapped=>exact norm
 |early=>exact BJ hw hc hl
 |deferred=>exact other
 |report=>exact other
section
variable {fr:Frame} {Qn:List Frame} {d:Deferred} {V1:World} {es:Array Event}
theorem Eg (hd:okD fs d) {f:FuncId} {args:Array Value} (h:(invoke d.target d.args).runT P V #[]=(.ok (.enter f args) V1,es)):
 callDeferred P fr Qn none d V= .go (cz (Frame.enter P f args .deferred) (fr::Qn) .running) V1 (Go.seen P fr.fn es):=by
 obtain⟨t,a⟩:=d;cases t<;>first|exact False.elim hd|skip
 simp[callDeferred,h,GStep.after,cz]
theorem Ei (hd:okD fs d) {n:Next} (hn:Vf fs n) (hne:∀f a,n≠ .enter f a) (h:(invoke d.target d.args).runT P V #[]=(.ok n V1,es)):
 callDeferred P fr Qn none d V= .go (cz fr Qn .running) V1 (Go.seen P fr.fn es):=by
 obtain⟨t,a⟩:=d;cases t<;>first|exact False.elim hd|skip
 cases n<;>first|exact False.elim hn|exact absurd rfl (hne _ _)|simp[callDeferred,h,GStep.after,cz]
theorem Eh (hd:okD fs d) {v:Value} (h:(invoke d.target d.args).runT P V #[]=(.halt (.panic v) V1,es)):
 callDeferred P fr Qn none d V= .go (cz (fr.raise [{v,recovered:=false}]) Qn .running) V1 (Go.seen P fr.fn es):=by
 obtain⟨t,a⟩:=d;cases t<;>first|exact False.elim hd|skip
 simp[callDeferred,h,GStep.after,cz]
theorem yI (hd:okD fs d) (h:(invoke d.target d.args).runT P V #[]=(.halt .blocked V1,es)):
 callDeferred P fr Qn none d V= .go (cz {fr with defers:=d::fr.defers} Qn .blocked) V1 (Go.seen P fr.fn #[]):=by
 obtain⟨t,a⟩:=d;cases t<;>first|exact False.elim hd|skip
 simp[callDeferred,h,GStep.after,cz]
theorem TJ (hd:okD fs d) {x:Halt} (hb:Ku x) (h:(invoke d.target d.args).runT P V #[]=(.halt x V1,es)):∃o y,callDeferred P fr Qn none d V= .ended o V1 y:=by
 obtain⟨t,a⟩:=d;cases t<;>first|exact False.elim hd|skip
 cases x<;>first|exact hb.elim|simp[callDeferred,h,GStep.after]
end
theorem Mh (H:OkS P ρ fs) {d:Deferred} (hd:okD fs d):SN P ρ fs (invoke d.target d.args) (invoke (zU ρ d).target (zU ρ d).args):=by
 obtain⟨t,a⟩:=d;cases t with
 |fn f c=>cases f with
  |func g=>have:=H.calls g hd (a++c);rw[Array.map_append]at this;exact this
  |_=>exact False.elim hd
 |_=>exact False.elim hd
theorem GR (H:OkS P ρ fs) {fr:Frame} {d:Deferred} (hfr:dZ fs fr) (hd:okD fs d) (hl:∀x∈l,dZ fs x) (hw:WR ρ V W)
 (ha:Align ρ V W (mP (callDeferred P fr (l++cs) none d V))):
 gB P ρ fs cs cs' V W (callDeferred P fr (l++cs) none d V) (callDeferred P (dL ρ fr) (l.map (dL ρ)++cs') none (zU ρ d) W):=by
 have hs:=Mh H hd;have hd':okD fs (zU ρ d):=Ib hd;have run:=hs.runT H.inj V W #[] #[] hw;have kinds:=hs.J7 V #[] hw.kg;rcases hr:(invoke d.target d.args).runT P V #[]with⟨r,es⟩;rcases hr':(invoke (zU ρ d).target (zU ρ d).args).runT P W #[]with⟨r',es'⟩;rw[hr]at run kinds;rw[hr']at run;cases r with
 |halt h V1=>
  rcases kinds h V1 rfl with hb|hg
  ·obtain⟨o,x,e⟩:=TJ (fr:=fr) (Qn:=l++cs) hd hb hr;rw[e];exact .bad
  ·cases h<;>first|exact hg.elim|skip
   ·rename_i v;rw[Eh hd hr]at ha ⊢;obtain⟨⟨x,e1,e2,e3⟩,res,o⟩:=run ha.1 ha.2 (fun x=>x);simp only[Array.empty_append]at e1 e2;cases r' with
    |ok b W1=>exact res.elim
    |halt h' W1=>obtain⟨rfl,_⟩:=res;rw[e1]at*;rw[e2]at hr';rw[Eh hd' hr',show(dL ρ fr).fn=fr.fn from rfl,oZ];have rm:=zq (ρ:=ρ) fr [{v:=v,recovered:=false}];simp only[List.map_cons,List.map_nil]at rm;rw[rm];exact .go (.inl rfl) (uO hfr _) hl o fun e he=>(e3 e (mem_seen he)).imp id fun x=>⟨x.1,raise_mode _ _⟩
   ·rw[yI hd hr]at ha ⊢;obtain⟨⟨x,e1,e2,e3⟩,res,o⟩:=run ha.1 ha.2 (fun x=>x);cases r' with
    |ok b W1=>exact res.elim
    |halt h' W1=>
     obtain⟨rfl,_⟩:=res;rw[yI hd' hr',show(dL ρ fr).fn=fr.fn from rfl];have e4:Go.seen P fr.fn #[]=(Go.seen P fr.fn #[]).map (lK ρ):=by have:=oZ (P:=P) (ρ:=ρ) fr.fn #[];simpa using this
     rw[e4];have:=gB.go (P:=P) (ρ:=ρ) (fs:=fs) (cs:=cs) (cs':=cs') (V:=V) (W:=W) (f:={fr with defers:=d::fr.defers}) (l:=l) (st:=.blocked) (es:=Go.seen P fr.fn #[]) (.inr rfl)
      ⟨hfr.todo,hfr.round,fun x hx=>by rcases List.mem_cons.1 hx with rfl|hx;exact hd;exact hfr.defers x hx⟩ hl o (fun e he=>by have:=mem_seen he;simp at this)
     rw[←e4]at this ⊢;exact this
 |ok n V1=>
  have core:Align ρ V W V1→∃W1,es'=es.map (lK ρ)∧(∀e∈es,mH V1.heap.size e.loc)∧r'= .ok (za ρ n) W1∧Vf fs n∧Out ρ V W V1 W1:=by
   intro h;obtain⟨⟨x,e1,e2,e3⟩,res,o⟩:=run h.1 h.2 (fun x=>x);simp only[Array.empty_append]at e1 e2;subst e1;cases r' with
   |halt h' W1=>exact res.elim
   |ok n' W1=>exact⟨W1,e2,fun e he=>(e3 e he).resolve_right fun x=>x.2,by rw[res.1],res.2,o⟩
  have hok:Vf fs n:=by obtain⟨b,hb⟩:=hs.oks V #[] _ _ (by rw[hr]);exact hb.2
  have val:(∀f a,n≠ .enter f a)→(∀f a,za ρ n≠ .enter f a)→Vf fs (za ρ n)→gB P ρ fs cs cs' V W (callDeferred P fr (l++cs) none d V) (callDeferred P (dL ρ fr) (l.map (dL ρ)++cs') none (zU ρ d) W):=by intro hne hne' hok';rw[Ei hd hok hne hr]at ha ⊢;obtain⟨W1,rfl,e3,rfl,_,o⟩:=core ha;rw[Ei hd' hok' hne' hr',show(dL ρ fr).fn=fr.fn from rfl,oZ];exact .go (.inl rfl) hfr hl o fun e he=>.inl (e3 e (mem_seen he))
  cases n with
  |enter f args=>
   rw[Eg hd hr]at ha ⊢;obtain⟨W1,rfl,e3,rfl,_,o⟩:=core ha;simp only[za]at hr';rw[Eg hd' hr',show(dL ρ fr).fn=fr.fn from rfl,oZ,yO];have:=gB.go (P:=P) (ρ:=ρ) (fs:=fs) (cs:=cs) (cs':=cs') (V:=V) (W:=W) (f:=Frame.enter P f args .deferred) (l:=fr::l) (st:=.running) (es:=Go.seen P fr.fn es) (.inl rfl) (oK H hok args .deferred)
    (fun x hx=>by rcases List.mem_cons.1 hx with rfl|hx;exact hfr;exact hl x hx) o (fun e he=>.inl (e3 e (mem_seen he)))
   simpa using this
  |value v=>exact val (by simp) (by simp[za]) trivial
  |skip=>exact val (by simp) (by simp[za]) trivial
  |spawn x=>exact val (by simp) (by simp[za]) hok
  |defer x=>exact val (by simp) (by simp[za]) ⟨Ib hok.1,hok.2⟩
  |_=>exact hok.elim
end Go.Ren
namespace Go.Ren
set_option linter.unusedSimpArgs false
set_option linter.unusedVariables false
variable {P:Program} {ρ:Nat→Nat} {fs:FuncId→Bool} {cs cs' l:List Frame} {V W:World}
theorem gB.pre {V1 W1:World} {d:Array Event} {x y:GStep} (o:Out ρ V W V1 W1) (hd:∀e∈d,mH V1.heap.size e.loc) (h:gB P ρ fs cs cs' V1 W1 x y):gB P ρ fs cs cs' V W (x.after d) (y.after (d.map (lK ρ))):=by
 cases h with
 | @go f l st V2 W2 es hst hf hl ho he=>
   have:=gB.go (P:=P) (ρ:=ρ) (fs:=fs) (cs:=cs) (cs':=cs') (V:=V) (W:=W) (f:=f) (l:=l) (st:=st) (es:=d++es) hst hf hl (o.trans ho) (fun e hm=>by
    rcases Array.mem_append.1 hm with h1|h1
    ·exact .inl ((hd e h1).mono ho.BU)
    ·exact he e h1)
   simpa[GStep.after]using this
 | @spawn f l dd V2 W2 es hgf hf hl ho he=>
   have:=gB.spawn (P:=P) (ρ:=ρ) (fs:=fs) (cs:=cs) (cs':=cs') (V:=V) (W:=W) (f:=f) (l:=l) (d:=dd) (es:=d++es) hgf hf hl (o.trans ho) (fun e hm=>by
    rcases Array.mem_append.1 hm with h1|h1
    ·exact(hd e h1).mono ho.BU
    ·exact he e h1)
   simpa[GStep.after]using this
 |bad=>exact .bad
theorem Cx (d:Array Event) (x:GStep):mP (x.after d)=mP x:=by cases x<;>rfl
theorem yM {main:Bool} {fr c:Frame} {k:List Frame} {v:Value}:mP (doReturn P main fr (c::k) none v V)=V:=by obtain⟨fn,tmps,todo,defers,mode,kind,round⟩:=fr;cases kind<;>rfl
theorem Ga (H:OkS P ρ fs) {main main':Bool} {fr:Frame} (hfr:dZ fs fr) (hl:∀x∈l,dZ fs x) (hw:WR ρ V W) (hm:fr.mode≠ .run) (hex:fr.defers≠[]∨l≠[])
 (ha:Align ρ V W (mP (unwind P main fr (l++cs) none V))):
 gB P ρ fs cs cs' V W (unwind P main fr (l++cs) none V) (unwind P main' (dL ρ fr) (l.map (dL ρ)++cs') none W):=by
 obtain⟨fn,tmps,todo,defers,mode,kind,round⟩:=fr;cases defers with
 |cons d ds=>
  have hd:okD fs d:=hfr.defers d (by simp);have hfr2:dZ fs {fn:=fn,tmps:=tmps,todo:=todo,defers:=ds,mode:=mode,kind:=kind,roundOf:=round}:=⟨hfr.todo,hfr.round,fun x hx=>hfr.defers x (by simp[hx])⟩;obtain⟨t,a⟩:=d;cases t<;>first|exact False.elim hd|skip
  exact GR (cs':=cs') H hfr2 hd hl hw ha
 |nil=>
  cases l with
  |nil=>rcases hex with h|h<;>exact absurd rfl h
  |cons c l=>
   have hc:dZ fs c:=hl c (by simp);have hl':∀x∈l,dZ fs x:=fun x hx=>hl x (by simp[hx]);cases mode with
   |run=>exact absurd rfl hm
   |panicking chain=>
    have cat:∀t:Array Value,∀m:FrameMode,Frame.catches P {fn:=fn,tmps:=t,todo:=todo,defers:=[],mode:=m,kind:=kind,roundOf:=round}=false:=by
     intro t m;unfold Frame.catches;cases P.funcs[fn]? with
     |some f=>rfl
     |none=>
      cases todo with
      |nil=>rfl
      |cons i k=>have:=hfr.todo i (by simp);cases i<;>first|rfl|exact Bool.noConfusion this
    have e1:unwind P main {fn:=fn,tmps:=tmps,todo:=todo,defers:=[],mode:=.panicking chain,kind:=kind,roundOf:=round} (c::l++cs) none V= .go (cz (c.raise chain) (l++cs) .running) V:=by simp[unwind,cat,cz]
    have e2:unwind P main' (dL ρ {fn:=fn,tmps:=tmps,todo:=todo,defers:=[],mode:=.panicking chain,kind:=kind,roundOf:=round}) ((c::l).map (dL ρ)++cs') none W= .go (cz ((dL ρ c).raise (chain.map fun e=>{e with v:=mv ρ e.v})) (l.map (dL ρ)++cs') .running) W:=by simp[unwind,cat,cz,dL,gZ]
    rw[e1,e2,zq];exact BJ hw (uO hc _) hl'
   |returning=>
    cases hf:P.funcs[fn]? with
    |none=>
     have e1:unwind P main {fn:=fn,tmps:=tmps,todo:=todo,defers:=[],mode:=.returning,kind:=kind,roundOf:=round} (c::l++cs) none V=doReturn P main {fn:=fn,tmps:=tmps,todo:=todo,defers:=[],mode:=.returning,kind:=kind,roundOf:=round} (c::l++cs) none (tmps.getD 0 undef) V:=by simp[unwind,hf]
     have e2:unwind P main' (dL ρ {fn:=fn,tmps:=tmps,todo:=todo,defers:=[],mode:=.returning,kind:=kind,roundOf:=round}) ((c::l).map (dL ρ)++cs') none W=doReturn P main' (dL ρ {fn:=fn,tmps:=tmps,todo:=todo,defers:=[],mode:=.returning,kind:=kind,roundOf:=round}) (dL ρ c::l.map (dL ρ)++cs') none ((tmps.map (mv ρ)).getD 0 undef) W:=by simp[unwind,hf,dL,gZ]
     rw[e1,e2,Cw];exact yL hc hl' hw _
    |some f=>
     have hs:=zJ (P:=P) (ρ:=ρ) f tmps;have run:=hs.runT H.inj V W #[] #[] hw;have kinds:=hs.J7 V #[] hw.kg;rcases hr:(results f tmps).runT P V #[]with⟨r,es⟩;rcases hr':(results f (tmps.map (mv ρ))).runT P W #[]with⟨r',es'⟩;rw[hr]at run kinds;rw[hr']at run;cases r with
     |halt h V1=>
      have e1:∃o x,unwind P main {fn:=fn,tmps:=tmps,todo:=todo,defers:=[],mode:=.returning,kind:=kind,roundOf:=round} (c::l++cs) none V= .ended o V1 x:=by cases h<;>simp[unwind,hf,hr,GStep.after]
      obtain⟨o,x,e1⟩:=e1;rw[e1];exact .bad
     |ok v V1=>
      have e1:unwind P main {fn:=fn,tmps:=tmps,todo:=todo,defers:=[],mode:=.returning,kind:=kind,roundOf:=round} (c::l++cs) none V=(doReturn P main {fn:=fn,tmps:=tmps,todo:=todo,defers:=[],mode:=.returning,kind:=kind,roundOf:=round} (c::l++cs) none v V1).after (Go.seen P fn es):=by simp[unwind,hf,hr]
      rw[e1]at ha ⊢;rw[Cx,List.cons_append,yM]at ha;obtain⟨⟨d,e2,e3,e4⟩,res,o⟩:=run ha.1 ha.2 (fun x=>x);simp only[Array.empty_append]at e2 e3;subst e2 e3;cases r' with
      |halt h' W1=>exact res.elim
      |ok v' W1=>
       have hv:v'=mv ρ v:=res;subst hv;have e5:unwind P main' (dL ρ {fn:=fn,tmps:=tmps,todo:=todo,defers:=[],mode:=.returning,kind:=kind,roundOf:=round}) ((c::l).map (dL ρ)++cs') none W=(doReturn P main' (dL ρ {fn:=fn,tmps:=tmps,todo:=todo,defers:=[],mode:=.returning,kind:=kind,roundOf:=round}) (dL ρ c::l.map (dL ρ)++cs') none (mv ρ v) W1).after ((Go.seen P fn es).map (lK ρ)):=by rw[←oZ];simp[unwind,hf,hr',dL,gZ]
       rw[e5];exact gB.pre o (fun e he=>(e4 e (mem_seen he)).resolve_right fun x=>x.2) (yL hc hl' o.wr _)
theorem De (H:OkS P ρ fs) (hgo:P.follows .goNilFatal=true→fs fM=false) {main main':Bool} {fr:Frame} {st st':GoStatus} (hfr:dZ fs fr) (hl:∀x∈l,dZ fs x) (hw:WR ρ V W) (hex:fr.mode= .run∨fr.defers≠[]∨l≠[])
 (ha:Align ρ V W (mP (stepG P main (cz fr (l++cs) st) V))):
 gB P ρ fs cs cs' V W (stepG P main (cz fr (l++cs) st) V) (stepG P main' (cz (dL ρ fr) (l.map (dL ρ)++cs') st') W):=by
 obtain⟨fn,tmps,todo,defers,mode,kind,round⟩:=fr;cases mode with
 |run=>exact Uc (main:=main) (main':=main') (cs':=cs') H hgo hfr hl hw ha
 |returning=>exact Ga (main:=main) (main':=main') (cs':=cs') H hfr hl hw (by simp) (hex.resolve_left (by simp)) ha
 |panicking ch=>exact Ga (main:=main) (main':=main') (cs':=cs') H hfr hl hw (by simp) (hex.resolve_left (by simp)) ha
end Go.Ren
