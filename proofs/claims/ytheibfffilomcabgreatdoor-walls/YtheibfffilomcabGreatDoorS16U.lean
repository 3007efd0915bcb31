import Derived.Test.YtheibfffilomcabGreatDoorS13U
set_option linter.all false
namespace Go.Ren
open Go.Conc Go.ConcN
open Go.ConcR (KK wgBlock WgAt stA smA rd wr Payload Aside2 DC0 Bk g_of_ofEvents)
set_option linter.unusedSimpArgs false
set_option linter.unusedVariables false
set_option linter.unusedSectionVars false
section
variable {P:Program} {Wg:Nat} {Post:Value→World→Prop}
theorem EJ {a:Goroutine} {w:World} {v:Value} (hr:a.status= .running) (hend:∀d,∃es,stepG P true a (w.at d)= .ended (.done v) (w.at d) es∧∀e∈es,EvN Wg e) (hp:∀d,Post v (w.at d)):
 ∀(M:Nat) (gs:Array Goroutine) (sl:Option (Nat × Nat)) (t:Trace) (q:Nat→Nat) (d0:Nat),sumTo gs.size q≤M→gs[0]? =some a→Leavers P t gs q→Gu Wg t→
 ∃N last o w' t',runNT P (N+1) (crowd gs (w.at d0) sl) t=(.ended o w',t')∧runN P N (crowd gs (w.at d0) sl)= .next last∧Go.step P last= .ended o w'∧Good P Post last o w' t':=by
 intro M;induction M with
 |zero|succ M ih=>
  intro gs sl t q d0 hM h0 hL hP;obtain⟨i,g,d,sl',hi,hg,hst⟩:=crowd_pick (P:=P) (w:=w.at d0) (sl:=sl) (aas hL h0 hr) ⟨0,a,h0,hr⟩;have hst':stepT P (crowd gs (w.at d0) sl)=runT P (crowd gs (w.at d) sl') i:=hst;rcases Nat.eq_zero_or_pos i with rfl|l
  ·obtain rfl:=Option.some.inj (h0.symm.trans hi);obtain⟨es,hs,hev⟩:=hend d;have ran:=runT_crowd_ended (P:=P) (sl:=sl') (i:=0) hi (show stepG P (0==0) a (w.at d)=_ from hs);have hP':=hP.own (fn:=a.frame.fn) (pos:=a.frame.place) hev;refine⟨0,crowd gs (w.at d0) sl,_,_,_,by simp only[runNT,hst',ran],rfl,by rw[Go.step,hst',ran],v,rfl,hp d,hP'.clean,hP'.over,⟨fun x hx=>?_,rfl⟩,fun j x hx hj=>⟨q j,?_⟩⟩
   ·obtain⟨k,hk⟩:=List.mem_iff_getElem?.1 hx;rw[List.getElem?_drop]at hk;exact⟨_,(hL.old (1+k) x (by omega) (by simpa[crowd]using hk)).leaves⟩
   ·have far:(t++MemOp.ofEvents 0 a.frame.fn a.frame.place es).deaf j (t++MemOp.ofEvents 0 a.frame.fn a.frame.place es).size=Deaf t j:=Deaf_other t (g:=j) (g':=0) (by omega) _ aan;rw[far];exact(hL.old j x (by omega) hx).hears _
  ·obtain⟨k,g',es,less,mute,hs,rest⟩:=aao hL h0 hr l hi hg;have ran:=runT_crowd_go (P:=P) (sl:=sl') (i:=i) hi (hs (w.at d));obtain⟨aaj,hL'⟩:=rest (w.at d) g.frame.fn g.frame.place
   first
    |omega
    |(obtain⟨N,last,o,w',t',r1,r2,r3,r4⟩:=ih _ sl' _ (upd q i k) d (by rw[Array.size_setIfInBounds,Array.size_map];omega) aaj hL' (hP.mute (Nat.ne_of_gt l) mute)
      exact⟨N+1,last,o,w',t',by rw[runNT];simp only[hst',ran];exact r1,by rw[runN,Go.step];simp only[hst',ran];exact r2,r3,r4⟩)
end
structure Pre (Wg hi:Nat) (u:Trace):Prop where
 g:∀op∈u,op.g=0
 t:∀op∈u,∀x,op.act.touch?=some x→∃b,blk x.loc=some b∧b<hi∧b≠Wg
 m:∀op∈u,op.act≠ .mark .disable∧op.act≠ .mark .enable∧op.act≠ .mark (.release (stA Wg))
section
variable [Payload] {c:dR}
theorem dR.start (G:c.Geo) {a:Goroutine} {w:World} {u:Trace} {sl:Option (Nat × Nat)} (hge:GE c.P true c.Bs (c.Gv c.n) (fun _=>False) a w) (hwg:WgAt c.ty c.Wg w 0 0) (hpay:PayAt c.C c.n w) (hw:c.w0=w) (hB:c.B0≤w.heap.size) (hu:Pre c.Wg w.heap.size u):
 ∃μ,c.IX μ (crowd #[a] w sl) u:=by
 obtain⟨r,hge⟩:=hge;have nsh:∀op∈u,∀x,op.act.touch?=some x→¬ShN c.Wg x.loc:=fun op hop x hx hs=>by obtain⟨b,h1,_,h3⟩:=hu.t op hop x hx;rw[vH hs]at h1;cases h1;exact h3 rfl
 have hcore:c.Core 0 #[a] w u (fun _=>⟨0,0,0⟩) (fun _=>r) (fun _ _=>False) 0:=by
  refine⟨⟨fun _ _ h=>h.elim,fun _ _ _ h=>h.elim,hB,fun _ _=>by rw[hw],by rw[hw],by rw[hw],by rw[hw],fun i x hx b hb=>?_,CT.lone hu.g nsh⟩,rfl,fun i hi=>by omega,?_,?_,fun i hi=>by omega,fun i hi=>by omega,fun i hi=>by omega,hpay,fun _ _ _ h=>h.elim⟩
  ·obtain⟨op,ho,hx'⟩:=touch_of hx;obtain⟨b',h1,h2,_⟩:=hu.t op (Array.mem_of_getElem? ho) x hx';rw[hb]at h1;cases h1;exact h2
  ·intro i hi;obtain⟨op,ho,hoa⟩:=Option.map_eq_some_iff.1 hi;exact(hu.m op (Array.mem_of_getElem? ho)).2.2 hoa
  ·have:=Deaf_still #[] 0 u fun op hop=>⟨(hu.m op hop).1,(hu.m op hop).2.1⟩;simpa[Deaf,Trace.deaf]using this
 have hmode:∀tag,isOpen tag→pend tag=0→(∀vs,tag≠ .w2 vs)→Go.ConcN.Mode 0 (fun _=>(⟨0,0,0⟩:WD)) tag 0 0:=fun tag op pe no=>by have:∀D,Go.ConcN.Mode 0 D tag (((Vc 0 D+pend tag:Nat):Int)*KK) 0:=fun D=>.opn op (fun _ l=>absurd l (Nat.not_lt_zero _)) fun vs e=>(no vs e).elim;simpa[Vc,sumTo,pe]using this fun _=>⟨0,0,0⟩
 cases hn:c.n with
 |zero=>rw[hn]at hge;have hc:=dR.CX.gk hge;rw[hn]at hc;exact⟨_,#[a],w,sl,0,_,_,_,.kd,0,0,a,0,0,rfl,rfl,hc,hcore,hwg,hmode .kd trivial rfl (by simp),rfl⟩
 |succ k=>rw[hn]at hge;have hc:=dR.CX.g5 (r:=k) (by omega) hge;rw[hn,Nat.sub_self]at hc;exact⟨_,#[a],w,sl,0,_,_,_,.sp k 5,0,0,a,0,0,rfl,rfl,hc,hcore,hwg,hmode (.sp k 5) trivial rfl (by simp),rfl⟩
end
end Go.Ren
namespace Go.Ren
open Go.Conc Go.ConcN Go.RowKit
open Go.ConcR (DC0)
set_option linter.unusedSimpArgs false
set_option linter.unusedVariables false
set_option linter.unusedSectionVars false
def Ig (ops:Array Oper) (listed:Array Bool):List Nat:=
 (List.range ops.size).filter fun i=> !listed.getD i true&&((ops[i]?).map (·.after.all fun e=> !Region.binds .any e||listed.getD e.on false)).getD false
def qH (ops:Array Oper):Nat→Array Bool→List (List Nat)
 | 0,_=>[[]]
 |fuel+1,listed=>match Ig ops listed with
  | []=>[[]]
  |rs=>rs.flatMap fun i=>(qH ops fuel (listed.setIfInBounds i true)).map (i:: ·)
theorem J_ (ops:Array Oper):∀(fuel t:Nat) (listed:Array Bool) (acc:List Nat),∃l,l∈qH ops fuel listed∧Region.linearise.go .any ops fuel t listed acc=acc.reverse++l
 | 0,t,listed,acc=>⟨[],by simp[qH],by simp[Region.linearise.go]⟩
 |fuel+1,t,listed,acc=>by
  have hrs:((List.range ops.size).filter fun i=> !listed.getD i true&&((ops[i]?).map (·.after.all fun e=> !Region.binds .any e||listed.getD e.on false)).getD false)=Ig ops listed:=rfl;unfold Region.linearise.go;simp only[hrs];unfold qH;cases hr:Ig ops listed with
  |nil=>exact⟨[],by simp,by simp⟩
  |cons x xs=>
   cases hi:(x::xs)[t % (x::xs).length]? with
   |none=>have:t % (x::xs).length<(x::xs).length:=Nat.mod_lt _ (by simp);rw[List.getElem?_eq_none_iff]at hi;omega
   |some i=>obtain⟨l,h1,h2⟩:=J_ ops fuel (t / (x::xs).length) (listed.setIfInBounds i true) (i::acc);refine⟨i::l,?_,by simp only[h2];simp⟩;simp only[List.mem_flatMap,List.mem_map];exact⟨i,List.mem_of_getElem? hi,l,h1,rfl⟩
theorem vT {P:Program} (hm:P.follows .mixedOrders=true) (ops:Array Oper) (t:Nat):Region.schedule (P.follows .mixedOrders) ops t∈qH ops ops.size (Array.replicate ops.size false):=by unfold Region.schedule Region.linearise;rw[hm];simp only[Bool.true_or, ↓reduceIte];obtain⟨l,h1,h2⟩:=J_ ops ops.size t (Array.replicate ops.size false) [];rw[h2];simpa using h1
section
variable {P:Program} {main:Bool} {Bs S:Nat→Prop} {Stop Stop':(Nat→Prop)→Goroutine→World→Prop}
theorem GE.uJ:∀{m:Nat} {g:Goroutine} {w:World},Goes P main (RY fun b=>Bs b∨S b) DC0 (fun g w=>GE P main Bs Stop S g w) m g w→GE P main Bs Stop S g w
 | 0,g,w,h=>h w (.refl w)
 |m+1,g,w,h=>by
  rcases h with h|⟨hr,h⟩
  ·exact h w (.refl w)
  ·refine GE.step hr fun w₁ q=>?_;obtain⟨g',w',es,e,⟨rfl,rfl⟩,h3⟩:=goes_elim (h w₁ q);exact⟨g',_,#[],e,.idle _,by rw[gV];exact GE.uJ h3⟩
theorem GE.frame {X:Nat→Prop} (hs:∀S g w,Stop S g w→Stop' (fun b=>S b∨X b) g w) {g:Goroutine} {w:World} (h:GE P main (fun b=>Bs b∨X b) Stop S g w):GE P main Bs Stop' (fun b=>S b∨X b) g w:=by
 obtain⟨r,h⟩:=h;induction r generalizing S g w with
 |none=>exact h.elim
 |leaf=>exact GE.stop fun w₁ q=>hs _ _ _ (h w₁ (q.mono fun x hx=>hx.elim (fun h=>h.elim .inl fun h=>.inr (.inr h)) fun h=>.inr (.inl h)))
 |node f ih=>
  refine GE.step h.1 fun w₁ q=>?_;obtain⟨g',w',es,e,y,h3⟩:=h.2 w₁ (q.mono fun x hx=>hx.elim (fun h=>h.elim .inl fun h=>.inr (.inr h)) fun h=>.inr (.inl h));have y':GY Bs (fun b=>S b∨X b) w₁ w' es:=by
   refine⟨fun b hb hn=>y.keep b hb fun x=>hn (.inl x),y.size,y.tape,y.os,y.output,fun ev hev=>?_⟩;rcases y.evs ev hev with⟨a,h5,h6⟩|⟨a,h5,h6⟩|h5
   ·refine .inl ⟨a,h5,?_⟩;rcases h6 with h6|h6|⟨h6|h6,h7⟩
    ·exact .inl (.inl h6)
    ·exact .inr (.inl h6)
    ·exact .inr (.inr ⟨h6,h7⟩)
    ·exact .inl (.inr h6)
   ·refine .inr (.inl ⟨a,h5,?_⟩);rcases h6 with h6|h6|⟨h6|h6,h7⟩
    ·exact .inl (.inl h6)
    ·exact .inr (.inl h6)
    ·exact .inr (.inr ⟨h6,h7⟩)
    ·exact .inl (.inr h6)
   ·exact .inr (.inr h5)
  have eS:grown (fun b=>S b∨X b) w₁ w'=fun b=>grown S w₁ w' b∨X b:=by
   funext b;apply propext;unfold grown;constructor
   ·rintro((h|h)|h)
    ·exact .inl (.inl h)
    ·exact .inr h
    ·exact .inl (.inr h)
   ·rintro((h|h)|h)
    ·exact .inl (.inl h)
    ·exact .inr h
    ·exact .inl (.inr h)
  exact⟨g',w',es,e,y',by rw[eS];exact ih _ h3⟩
theorem GE.read {g g':Goroutine} {w:World} {ad:Addr} (hr:g.status= .running) (hB:Bs ad.block∨S ad.block) (h:∀w₁,RY (fun b=>Bs b∨S b) w w₁→stepG P main g w₁= .go g' w₁ #[⟨.cell ad,false,false⟩]∧GE P main Bs Stop S g' w₁):GE P main Bs Stop S g w:=by refine GE.step hr fun w₁ q=>?_;obtain⟨h1,h2⟩:=h w₁ q;refine⟨g',w₁,_,h1,⟨fun _ _ _=>rfl,Nat.le_refl _,rfl,rfl,rfl,fun e he=>?_⟩,by rw[gV];exact h2⟩;rw[Array.mem_singleton]at he;subst he;exact .inl ⟨ad,rfl,hB.elim (fun x=>.inr (.inr ⟨x,rfl⟩)) .inl⟩
theorem GE.draw {g:Goroutine} {w:World} (hr:g.status= .running) (h:∀w₁,RY (fun b=>Bs b∨S b) w w₁→∃g',stepG P main g w₁= .go g' {w₁ with drawn:=w₁.drawn+1} #[]∧GE P main Bs Stop S g' {w₁ with drawn:=w₁.drawn+1}):GE P main Bs Stop S g w:=by refine GE.step hr fun w₁ q=>?_;obtain⟨g',h1,h2⟩:=h w₁ q;have e:grown S w₁ {w₁ with drawn:=w₁.drawn+1}=S:=gV S w₁;exact⟨g',_,_,h1,⟨fun _ _ _=>rfl,Nat.le_refl _,rfl,rfl,rfl,fun e he=>by simp at he⟩,by rw[e];exact h2⟩
end
end Go.Ren
namespace Go.Ren
open Go.Conc Go.ConcN Go.RowKit
open Go.ConcR (DC0)
set_option linter.unusedSimpArgs false
set_option linter.unusedVariables false
set_option linter.unusedSectionVars false
section
variable {P:Program} {main:Bool} {Bs S:Nat→Prop} {Stop Stop':(Nat→Prop)→Goroutine→World→Prop}
def Ea (Bs:Nat→Prop) (F:World→Prop):Prop:=∀w w',(∀b,Bs b→w'.heap[b]? =w.heap[b]?)→w.heap.size≤w'.heap.size→w'.os=w.os→F w→F w'
theorem GE.Lr {L:Nat} (hL:∀b,b<L→Bs b) {F:World→Prop} (hF:Ea Bs F) {g:Goroutine} {w:World} (h:ow P main L Stop S g w) (hd:∀b,Bs b→b<w.heap.size∧¬S b) (h0:F w)
 (hs:∀S g w,Stop S g w→F w→(∀b,Bs b→b<w.heap.size∧¬S b)→GE P main Bs Stop' S g w):GE P main Bs Stop' S g w:=by
 induction h with
 |stop h=>exact hs _ _ _ (h _ (.refl _)) h0 hd
 | @step S g w hr h1 _ ih=>
   refine GE.step hr fun w₁ q=>?_;have q':um L S w w₁:=⟨fun b hb=>q.keep b (hb.imp (hL b) id),q.size,q.os⟩;obtain⟨g',w',es,h3,h4⟩:=h1 w₁ q';have hz:=q.size;have hz':=h4.size;refine⟨g',w',es,h3,⟨h4.frame,h4.size,h4.tape,h4.os,h4.output,fun e he=>?_⟩,ih w₁ g' w' es q' h3 (fun b hb=>⟨by have:=(hd b hb).1;omega,fun x=>?_⟩) ?_⟩
   ·rcases h4.evs e he with⟨a,h5,h6⟩|⟨a,h5,h6⟩|h5
    ·exact .inl ⟨a,h5,h6.imp id (Or.imp id fun x=>⟨hL _ x.1,x.2⟩)⟩
    ·exact .inr (.inl ⟨a,h5,h6.imp id (Or.imp id fun x=>⟨hL _ x.1,x.2⟩)⟩)
    ·exact .inr (.inr h5)
   ·rcases x with x|x
    ·exact(hd b hb).2 x
    ·have:=(hd b hb).1;omega
   ·exact hF _ _ (fun b hb=>(h4.frame b (by have:=(hd b hb).1;omega) (hd b hb).2).trans (q.keep b (.inl hb))) (Nat.le_trans hz hz') (h4.os.trans q.os) h0
variable {fs:FuncId→Bool} {gs:FuncId→Tmp→Bool}
theorem rQ {L:Nat} {T:(Nat→Nat)→Prop} (Kt:Kit P fs gs L T) (hL:∀b,b<L→Bs b) {F:World→Prop} (hF:Ea Bs F) {Post:Value→World→Prop} (hP:∀v V τ d,Post v V→Post v (on V τ d)) {f:FuncId} {fn:Func} {jW:Array Value} {V:World}
 (hf:fs f=true) (hroot:∀fn,P.funcs[f]? =some fn→fn.results.all oM=true) (hn:NP V) (hcl:∀τ,T τ→Clean τ V∧jW.map (mv τ)=jW) (hc:∀t d,Calls P f jW (on V t d) fun e w=>∃v,e= .returned v∧Post v w)
 {π:Nat→Nat} {w:World} (hr:HR L π V w) {b:Frame} {a:Act} {ops:Array Oper} {i:Nat} {rest:List Nat} {k:List Item} {cs:List Frame} {o:Oper} {as:Array Operand} {ats:Array TypeId}
 (ho:ops[i]? =some o) (hw:Region.wanted o (yielded ops a.tmps)=true) (hk:b.kind≠ .early) (hop:o.op= .call {callee:=.value (.func f),args:=as,argTypes:=ats}) (hfn:P.funcs[f]? =some fn) (hname:(fn.name== "runtime.NumGoroutine")=false) (hb:fn.body.isNone=false)
 (hargs:∀w₁ ρ,Ext π V w₁ ρ→as.map a.eval=jW.map (mv ρ)) (hd:∀x,Bs x→x<w.heap.size∧¬own L π V x) (h0:F w)
 (hnext:∀zT V' v w',HR L zT V' w'→(V.heap.size≤V'.heap.size∧∀x,x<V.heap.size→zT x=π x)→Tidy T Post v V'→F w'→(∀x,Bs x→x<w'.heap.size∧¬own L zT V' x)→GE P main Bs Stop (own L zT V') (G (b.at (a.put o.dst (mv (canon zT V' w') v)) (.inRegion ops rest::k)) cs) w'):
 GE P main Bs Stop (own L π V) (G (b.at a (.inRegion ops (i::rest)::k)) cs) w:=by
 refine GE.step rfl fun w₁ q=>?_;have hl:listed P b.fn a o w₁= #[]:=by unfold listed;rw[events_call_body hop hfn hname hb];exact seen_none P _
 refine⟨_,w₁,_,stepG_enter ho hw hk (run_call_body hop hfn hname hb),by rw[hl];exact .idle _,?_⟩;rw[gV];have hr1:HR L π V w₁:=hr.rely ⟨fun x hx=>q.keep x (hx.imp (hL x) id),q.size,q.os⟩;have h01:F w₁:=hF _ _ (fun x hx=>q.keep x (.inl hx)) q.size q.os h0;refine GE.Lr hL hF (Cm (main:=main) (c:=b.at a (.inRegion ops (i::rest)::k)) (cs:=cs) Kt hP hf hroot hn hcl hc hr1 (fun ρ e=>by rw[←hargs w₁ ρ e];rfl)) (fun x hx=>⟨by have:=(hd x hx).1;have:=q.size;omega,(hd x hx).2⟩) h01 ?_;rintro S g w' ⟨zT,V',v,rfl,hr',hag,ht,hg⟩ hF' hd';have e0:=iY hr';rw[hg _ e0,Frame.finish_at,ho];exact hnext zT V' v w' hr' hag ht hF' hd'
end
end Go.Ren
