import Derived.Test.YtheibfffilomcabGreatDoorR4U
import Derived.Test.YtheibfffilomcabGreatDoorS12U
import Derived.Test.YtheibfffilomcabGreatDoorS3U
set_option linter.all false
set_option maxRecDepth 100000
set_option maxHeartbeats 4000000
namespace Go.Ren
open Go.Conc Go.ConcN
open Go.ConcR (KK wgBlock WgAt stA smA rd wr Payload Aside2 DC0 Bk g_of_ofEvents)
set_option linter.unusedSimpArgs false
set_option linter.unusedVariables false
set_option linter.unusedSectionVars false
def EvN (Wg:Nat) (e:Event):Prop:=(∀x,(MemAct.ofEvent e).touch?=some x→¬ShN Wg x.loc)∧e.loc≠ .mark .disable∧e.loc≠ .mark .enable
structure qm (vE:Nat→Prop) (w w':World):Prop where
 keep:∀b,vE b→w'.heap[b]? =w.heap[b]?
 size:w.heap.size≤w'.heap.size
 os:w'.os=w.os
 o:w'.output=w.output
 tape:w'.tape=w.tape
theorem qm.refl {vE:Nat→Prop} (w:World):qm vE w w:=⟨fun _ _=>rfl,Nat.le_refl _,rfl,rfl,rfl⟩
theorem qm.at {vE:Nat→Prop} (w:World) (d:Nat):qm vE w (w.at d):=⟨fun _ _=>rfl,Nat.le_refl _,rfl,rfl,rfl⟩
theorem qm.trans {vE:Nat→Prop} {a b c:World} (h:qm vE a b) (h':qm vE b c):qm vE a c:=
 ⟨fun x hx=>(h'.keep x hx).trans (h.keep x hx),Nat.le_trans h.size h'.size,h'.os.trans h.os,h'.o.trans h.o,h'.tape.trans h.tape⟩
inductive BT (P:Program) (Wg:Nat) (vE:Nat→Prop) (Stop:Goroutine→World→Prop):Goroutine→World→Prop
 |stop {g:Goroutine} {w:World}:(∀d,Stop g (w.at d))→BT P Wg vE Stop g w
 |step {g:Goroutine} {w:World}:g.status= .running→(∀d,∃g' w' es,stepG P true g (w.at d)= .go g' w' es∧(∀e∈es,EvN Wg e)∧qm vE (w.at d) w')→
   (∀d g' w' es,stepG P true g (w.at d)= .go g' w' es→BT P Wg vE Stop g' w')→BT P Wg vE Stop g w
section
variable {P:Program} {Wg:Nat} {vE:Nat→Prop} {Stop Stop':Goroutine→World→Prop}
theorem BT.at {g:Goroutine} {w:World} (h:BT P Wg vE Stop g w) (d:Nat):BT P Wg vE Stop g (w.at d):=by
 cases h with
 |stop h=>exact .stop h
 |step h1 h2 h3=>exact .step h1 h2 h3
theorem BT.bind {g:Goroutine} {w:World} (h:BT P Wg vE Stop g w) (hs:∀g w,Stop g w→BT P Wg vE Stop' g w):BT P Wg vE Stop' g w:=by
 induction h with
 | @stop g w h=>exact(hs _ _ (h w.drawn))
 |step h1 h2 _ ih=>exact .step h1 h2 ih
theorem BT.uJ:∀{m:Nat} {g:Goroutine} {w:World},Goes P true AtRel DC0 Stop m g w→BT P Wg vE Stop g w
 | 0,g,w,h=>.stop fun d=>h _ ⟨d,rfl⟩
 |m+1,g,w,h=>by
  rcases h with h|⟨hr,h⟩
  ·exact .stop fun d=>h _ ⟨d,rfl⟩
  ·refine .step hr (fun d=>?_) fun d g' w' es hs=>?_
   ·obtain⟨g',w',es,e,⟨rfl,rfl⟩,_⟩:=goes_elim (h _ ⟨d,rfl⟩);exact⟨g',_,#[],e,by simp,.refl _⟩
   ·obtain⟨g2,w2,es2,e,_,h3⟩:=goes_elim (h _ ⟨d,rfl⟩);rw[hs]at e;simp only[GStep.go.injEq]at e;obtain⟨rfl,rfl,_⟩:=e;exact BT.uJ h3
theorem Ue {Bs S:Nat→Prop} {lo hi:Nat} {e:Event} (h:Wo Bs S lo hi e) (h1:¬S Wg) (h2:Wg<lo) (h3:¬Bs Wg):EvN Wg e:=by
 refine⟨fun x hx hs=>?_,(jB (Wg:=Wg) h).1,(jB (Wg:=Wg) h).2.1⟩;obtain⟨a,ha,hb⟩:=hs;obtain⟨loc,wr,sy⟩:=e;rcases h with⟨a',h4,h5⟩|⟨r,h4,h5⟩|⟨m,h4,h5⟩
 ·simp only at h4;subst h4;simp[MemAct.ofEvent,MemAct.touch?]at hx;subst hx;simp only[Loc.cell.injEq]at ha;subst ha;rcases h5 with h5|h5|h5
  ·exact h1 (hb▸h5)
  ·omega
  ·exact h3 (hb▸h5.1)
 ·simp only at h4;subst h4;cases wr<;>cases sy<;>simp[MemAct.ofEvent,MemAct.touch?]at hx<;>(subst hx;cases ha)
 ·simp only at h4;subst h4;cases m<;>first|(simp[MemAct.ofEvent,MemAct.touch?]at hx;done)|cases h5
theorem BT.ZJ {Bs:Nat→Prop} {Stp:(Nat→Prop)→Goroutine→World→Prop} (h3:¬Bs Wg) (hs:∀S g w,Stp S g w→(∀b,vE b→b<w.heap.size→¬S b)→Stop g w):∀{r:Rk} {S:Nat→Prop} {g:Goroutine} {w:World},GT P true Bs Stp r S g w→¬S Wg→Wg<w.heap.size→(∀b,vE b→b<w.heap.size∧¬S b)→BT P Wg vE Stop g w:=by
 intro r;induction r with
 |none=>intro S g w h;exact h.elim
 |leaf=>intro S g w h h1 h2 h4;exact .stop fun d=>hs S _ _ (h _ ⟨fun _ _=>rfl,Nat.le_refl _,rfl⟩) fun b hb _=>(h4 b hb).2
 |node f ih=>
  intro S g w h h1 h2 h4;refine .step h.1 (fun d=>?_) fun d g' w' es hst=>?_
  ·obtain⟨g',w',es,e,y,_⟩:=h.2 (w.at d) ⟨fun _ _=>rfl,Nat.le_refl _,rfl⟩;exact⟨g',w',es,e,fun x hx=>Ue (y.evs x hx) h1 h2 h3,⟨fun b hb=>y.keep b (h4 b hb).1 (h4 b hb).2,y.size,y.os,y.output,y.tape⟩⟩
  ·obtain⟨g2,w2,es2,e,y,h5⟩:=h.2 (w.at d) ⟨fun _ _=>rfl,Nat.le_refl _,rfl⟩;rw[hst]at e;simp only[GStep.go.injEq]at e;obtain⟨rfl,rfl,_⟩:=e;have hz:w.heap.size≤w'.heap.size:=y.size;refine ih _ h5 (fun x=>?_) (by omega) fun b hb=>⟨by have:=(h4 b hb).1;omega,fun x=>?_⟩
   ·rcases x with x|x
    ·exact h1 x
    ·have:w.heap.size≤Wg:=x.1;omega
   ·rcases x with x|x
    ·exact(h4 b hb).2 x
    ·have:w.heap.size≤b:=x.1;have:=(h4 b hb).1;omega
theorem Gw.app0 {t u:Trace} (h:Gw Wg t) (hu:∀op∈u,op.g=0) (hs:∀op∈u,∀b,op.act.touch?=some b→¬ShN Wg b.loc) (hd:Deaf (t++u) 0=Deaf t 0):Gw Wg (t++u):=by
 refine⟨fun said=>noRace_append (h.clean said) hu fun i a ha op hop b hb hc=>?_,fun i a ha hm=>?_,handedOver_app h.over fun op hop=>.inl (hu op hop),hd.trans h.hears⟩
 ·rcases h.known i a ha hc.2.1 with hk|⟨hsa,_⟩
  ·exact hk
  ·exact absurd (hc.1▸hsa) (hs op hop b hb)
 ·obtain⟨x,hx,hxa⟩:=touch_of ha;rcases getElem?_append_cases hx with⟨_,hx'⟩|⟨_,hxu⟩
  ·exact(h.known i a (by rw[touchAt_of hx'];exact hxa) hm).imp (·.app u) id
  ·have:=knows_own hx;rw[hu x hxu]at this;exact .inl this
theorem Gw.own {t:Trace} (h:Gw Wg t) {fn:FuncId} {pos:String} {es:Array Event} (hes:∀e∈es,EvN Wg e):Gw Wg (t++MemOp.ofEvents 0 fn pos es):=by refine h.app0 (fun op hop=>by obtain⟨e,_,rfl⟩:=Go.Conc.mem_ofEvents hop;rfl) (fun op hop b hb=>by obtain⟨e,he,rfl⟩:=Go.Conc.mem_ofEvents hop;exact(hes e he).1 b hb) ?_;rw[Deaf_own];exact deafBehind_still (fun e he=>⟨(hes e he).2.1,(hes e he).2.2⟩) _
theorem Gw.mute {t:Trace} (h:Gw Wg t) {g:Nat} (hg:g≠0) {fn:FuncId} {pos:String} {es:Array Event} (hm:∀e∈es,e.mute=true):Gw Wg (t++MemOp.ofEvents g fn pos es):=by
 have hu:∀op∈MemOp.ofEvents g fn pos es,op.g=g:=fun op hop=>by obtain⟨e,_,rfl⟩:=Go.Conc.mem_ofEvents hop;rfl
 have hn:∀op∈MemOp.ofEvents g fn pos es,op.act.touch?=none:=fun op hop=>by obtain⟨e,he,rfl⟩:=Go.Conc.mem_ofEvents hop;exact touch_mute (hm e he)
 refine⟨fun said=>noRace_append (h.clean said) hu fun i a _ op hop b hb _=>(by rw[hn op hop]at hb;cases hb),fun i a ha hm=>?_,handedOver_app h.over fun op hop=>.inr (hn op hop),(Deaf_other t hg _ hu).trans h.hears⟩;obtain⟨x,hx,hxa⟩:=touch_of ha;rcases getElem?_append_cases hx with⟨_,hx'⟩|⟨_,hxu⟩
 ·exact(h.known i a (by rw[touchAt_of hx'];exact hxa) hm).imp (·.app _) id
 ·rw[hn x hxu]at hxa;cases hxa
theorem BT.runs {a:Goroutine} {w:World} (h:BT P Wg vE Stop a w) (hrun:∀g w,Stop g w→g.status= .running):∀(gs:Array Goroutine) (sl:Option (Nat × Nat)) (t:Trace) (q:Nat→Nat),gs[0]? =some a→Leavers P t gs q→Gw Wg t→
 ∃N gs' sl' t' q' a' w',runNT P N (crowd gs w sl) t=(.next (crowd gs' w' sl'),t')∧gs'[0]? =some a'∧Stop a' w'∧qm vE w w'∧Leavers P t' gs' q'∧Gw Wg t':=by
 induction h with
 | @stop a w h=>intro gs sl t q h0 hL hP;exact⟨0,gs,sl,t,q,a,w,rfl,h0,h w.drawn,.refl w,hL,hP⟩
 | @step a w hr h1 h2 ih=>
   intro gs sl t q;generalize hM:sumTo gs.size q=M;induction M using Nat.strongRecOn generalizing gs sl t q w with
   |_ M ihM=>
    intro h0 hL hP;have haw:∀g∈gs,awake g:=by
     intro g hg;obtain⟨i,hi,rfl⟩:=Array.mem_iff_getElem.1 hg;rcases Nat.eq_zero_or_pos i with rfl|hpos
     ·have:gs[0]=a:=by simpa[Array.getElem?_eq_getElem hi]using h0
      rw[this];exact awake_of (.inl hr)
     ·exact awake_of ((hL.old i _ hpos (Array.getElem?_eq_getElem hi)).status.elim .inl fun x=>.inr (.inr x))
    obtain⟨i,g,d,sl',hi,hg,hst⟩:=crowd_pick (P:=P) (w:=w) (sl:=sl) haw ⟨0,a,h0,hr⟩;have hlt:0<gs.size:=(Array.getElem?_eq_some_iff.1 h0).1;rcases Nat.eq_zero_or_pos i with rfl|hpos
    ·obtain rfl:g=a:=by rw[h0]at hi;exact(Option.some.inj hi).symm
     obtain⟨g',w',es,hs,hev,hk⟩:=h1 d;have hrunT:=runT_crowd_go (P:=P) (sl:=sl') (i:=0) hi (show stepG P (0==0) g (w.at d)=_ from hs);obtain⟨N,gs2,sl2,t2,q2,a2,w2,r1,r2,r3,r4,r5,r6⟩:=ih d g' w' es hs ((gs.map (woken P g g' w')).setIfInBounds 0 g') sl' (t++MemOp.ofEvents 0 g.frame.fn g.frame.place es) q (by simp[hlt])
      ⟨fun j x hj hx=>by
        rw[Array.getElem?_setIfInBounds_ne (show 0≠j by omega),Array.getElem?_map]at hx;obtain⟨y,hy,rfl⟩:=Option.map_eq_some_iff.1 hx;have hq:=hL.old j y hj hy;rw[woken_quitsD hq,Deaf_other t (g:=j) (g':=0) (by omega) _ (fun op hop=>by obtain⟨e,_,rfl⟩:=Go.Conc.mem_ofEvents hop;rfl)];exact hq,fun j hj=>by
        rw[Deaf_other t (g':=0) (by simp at hj;omega) _ (fun op hop=>by obtain⟨e,_,rfl⟩:=Go.Conc.mem_ofEvents hop;rfl)]
        exact hL.above j (by simpa using hj)⟩ (hP.own hev)
     exact⟨N+1,gs2,sl2,t2,q2,a2,w2,by simp only[runNT,hst,hrunT];exact r1,r2,r3,((qm.at w d).trans hk).trans r4,r5,r6⟩
    ·obtain⟨Lf,_⟩:=Array.getElem?_eq_some_iff.1 hi;have hq:=hL.old i g hpos hi;cases hqi:q i with
     |zero=>rw[hqi]at hq;rw[hq.1]at hg;cases hg
     |succ k=>
      rw[hqi]at hq;rcases hq with⟨hf,_⟩|⟨_,g',es,hm,hs,hq'⟩
      ·rw[hf]at hg;cases hg
      ·have hne:(i==0)=false:=by simp;omega
       have hrunT:=runT_crowd_go (P:=P) (sl:=sl') (i:=i) hi (show stepG P (i==0) g (w.at d)= .go g' (w.at d) es by rw[hne];exact hs _);have wk:∀(y:Goroutine),(y.status= .running∨y.status= .finished)→woken P g g' (w.at d) y=y:=fun y hy=>by
        unfold Go.Conc.woken;split
        ·exact again_running _ hy
        ·rfl
       have hsz:((gs.map (woken P g g' (w.at d))).setIfInBounds i g').size=gs.size:=by simp
       have hsum:=sumTo_upd q k id Lf;have e1:(sumTo gs.size fun a=>id (upd q i k a))=sumTo gs.size (upd q i k):=rfl;have e2:(sumTo gs.size fun a=>id (q a))=sumTo gs.size q:=rfl;obtain⟨N,gs2,sl2,t2,q2,a2,w2,r1,r2,r3,r4,r5,r6⟩:=ihM (sumTo gs.size (upd q i k)) (by rw[e1,e2]at hsum;simp only[id]at hsum;omega) (w:=w.at d) (fun d'=>h1 d') (fun d'=>h2 d') (fun d'=>ih d') ((gs.map (woken P g g' (w.at d))).setIfInBounds i g') sl' (t++MemOp.ofEvents i g.frame.fn g.frame.place es) (upd q i k) (by rw[hsz])
        (by rw[Array.getElem?_setIfInBounds_ne (by omega),Array.getElem?_map,h0];simp[wk a (.inl hr)])
        ⟨fun j x hj hx=>by
          by_cases e:j=i
          ·subst e;rw[Array.getElem?_setIfInBounds_self_of_lt (by simpa using Lf)]at hx;cases hx;rw[Deaf_own,upd_same];exact hq'
          ·rw[Array.getElem?_setIfInBounds_ne (fun x=>e x.symm),Array.getElem?_map]at hx;obtain⟨y,hy,rfl⟩:=Option.map_eq_some_iff.1 hx;have Y_:=hL.old j y hj hy;rw[wk y Y_.status,upd_ne _ _ e,Deaf_other t (fun x=>e x.symm) _ (fun op hop=>by obtain⟨e,_,rfl⟩:=Go.Conc.mem_ofEvents hop;rfl)];exact Y_,fun j hj=>by
          rw[Deaf_other t (g':=i) (by simp at hj;omega) _ (fun op hop=>by obtain⟨e,_,rfl⟩:=Go.Conc.mem_ofEvents hop;rfl)]
          exact hL.above j (by simpa using hj)⟩ (hP.mute (by omega) hm)
       exact⟨N+1,gs2,sl2,t2,q2,a2,w2,by simp only[runNT,hst,hrunT];exact r1,r2,r3,(qm.at w d).trans r4,r5,r6⟩
end
end Go.Ren
namespace Go.Ren
open Go.Conc Go.ConcN
open Go.ConcR (KK wgBlock WgAt stA smA rd wr Payload Aside2 DC0 Bk g_of_ofEvents)
set_option linter.unusedSimpArgs false
set_option linter.unusedVariables false
set_option linter.unusedSectionVars false
section
variable {P:Program} {Wg:Nat} {Post:Value→World→Prop}
theorem EM {a:Goroutine} {w:World} {v:Value} (hr:a.status= .running) (hend:∀d,∃es,stepG P true a (w.at d)= .ended (.done v) (w.at d) es∧∀e∈es,EvN Wg e) (hp:∀d,Post v (w.at d)):
 ∀(M:Nat) (gs:Array Goroutine) (sl:Option (Nat × Nat)) (t:Trace) (q:Nat→Nat) (d0:Nat),sumTo gs.size q≤M→gs[0]? =some a→Leavers P t gs q→Gw Wg t→
 ∃N last o w' t',runNT P (N+1) (crowd gs (w.at d0) sl) t=(.ended o w',t')∧runN P N (crowd gs (w.at d0) sl)= .next last∧Go.step P last= .ended o w'∧Good P Post last o w' t':=by
 intro M;induction M with
 |zero|succ M ih=>
  intro gs sl t q d0 hM h0 hL hP;have haw:∀g∈gs,awake g:=by
   intro g hg;obtain⟨i,hi,rfl⟩:=Array.mem_iff_getElem.1 hg;rcases Nat.eq_zero_or_pos i with rfl|hpos
   ·have:gs[0]=a:=by simpa[Array.getElem?_eq_getElem hi]using h0
    rw[this];exact awake_of (.inl hr)
   ·exact awake_of ((hL.old i _ hpos (Array.getElem?_eq_getElem hi)).status.elim .inl fun x=>.inr (.inr x))
  obtain⟨i,g,d,sl',hi,hg,hst⟩:=crowd_pick (P:=P) (w:=w.at d0) (sl:=sl) haw ⟨0,a,h0,hr⟩;have hst':stepT P (crowd gs (w.at d0) sl)=runT P (crowd gs (w.at d) sl') i:=hst;rcases Nat.eq_zero_or_pos i with rfl|hpos
  ·obtain rfl:g=a:=by rw[h0]at hi;exact(Option.some.inj hi).symm
   obtain⟨es,hs,hev⟩:=hend d;have hrunT:=runT_crowd_ended (P:=P) (sl:=sl') (i:=0) hi (show stepG P (0==0) g (w.at d)=_ from hs);have hP':=hP.own (fn:=g.frame.fn) (pos:=g.frame.place) hev;refine⟨0,crowd gs (w.at d0) sl,_,_,_,by simp only[runNT,hst',hrunT],rfl,by rw[Go.step,hst',hrunT],v,rfl,hp d,hP'.clean,hP'.over,⟨fun x hx=>?_,rfl⟩,fun j x hx hj=>?_⟩
   ·obtain⟨k,hk⟩:=List.mem_iff_getElem?.1 hx;rw[List.getElem?_drop]at hk;exact⟨_,(hL.old (1+k) x (by omega) (by simpa[crowd]using hk)).leaves⟩
   ·refine⟨q j,?_⟩;have hq:=hL.old j x (by omega) hx;have e:=Deaf_other t (g:=j) (g':=0) (by omega) (MemOp.ofEvents 0 g.frame.fn g.frame.place es) (g_of_ofEvents);have e':(t++MemOp.ofEvents 0 g.frame.fn g.frame.place es).deaf j (t++MemOp.ofEvents 0 g.frame.fn g.frame.place es).size=Deaf t j:=e;rw[e'];exact hq.hears _
  ·obtain⟨Lf,_⟩:=Array.getElem?_eq_some_iff.1 hi;have hq:=hL.old i g hpos hi;cases hqi:q i with
   |zero=>rw[hqi]at hq;rw[hq.1]at hg;cases hg
   |succ k=>
    have hle:=le_sumTo (f:=q) Lf;rw[hqi]at hq;rcases hq with⟨hf,_⟩|⟨_,g',es,hm,hs,hq'⟩
    ·rw[hf]at hg;cases hg
    ·first
     |omega
     |(have hne:(i==0)=false:=by simp;omega
       have hrunT:=runT_crowd_go (P:=P) (sl:=sl') (i:=i) hi (show stepG P (i==0) g (w.at d)= .go g' (w.at d) es by rw[hne];exact hs _);have wk:∀(y:Goroutine),(y.status= .running∨y.status= .finished)→woken P g g' (w.at d) y=y:=fun y hy=>by
        unfold Go.Conc.woken;split
        ·exact again_running _ hy
        ·rfl
       have hsz:((gs.map (woken P g g' (w.at d))).setIfInBounds i g').size=gs.size:=by simp
       have hsum:=sumTo_upd q k id Lf;have e1:(sumTo gs.size fun a=>id (upd q i k a))=sumTo gs.size (upd q i k):=rfl;have e2:(sumTo gs.size fun a=>id (q a))=sumTo gs.size q:=rfl;obtain⟨N,last,o,w',t',r1,r2,r3,r4⟩:=ih ((gs.map (woken P g g' (w.at d))).setIfInBounds i g') sl' (t++MemOp.ofEvents i g.frame.fn g.frame.place es) (upd q i k) d (by rw[hsz];rw[e1,e2]at hsum;simp only[id]at hsum;omega)
        (by rw[Array.getElem?_setIfInBounds_ne (by omega),Array.getElem?_map,h0];simp[wk a (.inl hr)])
        ⟨fun j x hj hx=>by
          by_cases e:j=i
          ·subst e;rw[Array.getElem?_setIfInBounds_self_of_lt (by simpa using Lf)]at hx;cases hx;rw[Deaf_own,upd_same];exact hq'
          ·rw[Array.getElem?_setIfInBounds_ne (fun x=>e x.symm),Array.getElem?_map]at hx;obtain⟨y,hy,rfl⟩:=Option.map_eq_some_iff.1 hx;have Y_:=hL.old j y hj hy;rw[wk y Y_.status,upd_ne _ _ e,Deaf_other t (fun x=>e x.symm) _ (fun op hop=>by obtain⟨e,_,rfl⟩:=Go.Conc.mem_ofEvents hop;rfl)];exact Y_,fun j hj=>by
          rw[Deaf_other t (g':=i) (by simp at hj;omega) _ (fun op hop=>by obtain⟨e,_,rfl⟩:=Go.Conc.mem_ofEvents hop;rfl)]
          exact hL.above j (by simpa using hj)⟩ (hP.mute (by omega) hm)
       exact⟨N+1,last,o,w',t',by rw[runNT];simp only[hst',hrunT];exact r1,by rw[runN,Go.step];simp only[hst',hrunT];exact r2,r3,r4⟩)
end
structure Pre (Wg hi:Nat) (u:Trace):Prop where
 g:∀op∈u,op.g=0
 t:∀op∈u,∀x,op.act.touch?=some x→∃b,blk x.loc=some b∧b<hi∧b≠Wg
 m:∀op∈u,op.act≠ .mark .disable∧op.act≠ .mark .enable∧op.act≠ .mark (.release (stA Wg))
section
variable [Payload] {c:dR}
theorem dR.start (G:c.Geo) {a:Goroutine} {w:World} {u:Trace} {sl:Option (Nat × Nat)} (hge:GE c.P true c.Bs (c.Gx c.n) (fun _=>False) a w) (hwg:WgAt c.ty c.Wg w 0 0) (hpay:PayAt c.C c.n w) (hw:c.w0=w) (hB:c.B0≤w.heap.size) (hu:Pre c.Wg w.heap.size u):
 ∃μ,c.IX μ (crowd #[a] w sl) u:=by
 obtain⟨r,hge⟩:=hge;have nsh:∀op∈u,∀x,op.act.touch?=some x→¬ShN c.Wg x.loc:=fun op hop x hx hs=>by obtain⟨b,h1,_,h3⟩:=hu.t op hop x hx;rw[vH hs]at h1;cases h1;exact h3 rfl
 have hcore:c.Core 0 #[a] w u (fun _=>⟨0,0,0⟩) (fun _=>r) (fun _ _=>False) 0:=by
  refine⟨⟨fun _ _ h=>h.elim,fun _ _ _ h=>h.elim,hB,fun _ _=>by rw[hw],by rw[hw],by rw[hw],by rw[hw],fun i x hx b hb=>?_,CT.lone hu.g nsh⟩,rfl,fun i hi=>by omega,?_,?_,fun i hi=>by omega,fun i hi=>by omega,fun i hi=>by omega,hpay,fun _ _ _ h=>h.elim⟩
  ·obtain⟨op,ho,hx'⟩:=touch_of hx;obtain⟨b',h1,h2,_⟩:=hu.t op (Array.mem_of_getElem? ho) x hx';rw[hb]at h1;cases h1;exact h2
  ·intro i hi;obtain⟨op,ho,hoa⟩:=Option.map_eq_some_iff.1 hi;exact(hu.m op (Array.mem_of_getElem? ho)).2.2 hoa
  ·have:=Deaf_still #[] 0 u fun op hop=>⟨(hu.m op hop).1,(hu.m op hop).2.1⟩;simpa[Deaf,Trace.deaf]using this
 have hmode:∀tag,isOpen tag→pend tag=0→(∀vs,tag≠ .w2 vs)→Go.ConcN.Mode 0 (fun _=>(⟨0,0,0⟩:WD)) tag 0 0:=fun tag h1 h2 h3=>by have:=Mode.opn (j:=0) (D:=fun _=>(⟨0,0,0⟩:WD)) h1 (fun i hi=>by omega) (fun vs e=>absurd e (h3 vs));simpa[Vc,sumTo,h2]using this
 cases hn:c.n with
 |zero=>rw[hn]at hge;have hc:=dR.CX.gk hge;rw[hn]at hc;exact⟨_,#[a],w,sl,0,_,_,_,.kd,0,0,a,0,0,rfl,rfl,hc,hcore,hwg,hmode .kd trivial rfl (by simp),rfl⟩
 |succ k=>rw[hn]at hge;have hc:=dR.CX.g5 (r:=k) (by omega) hge;rw[hn,Nat.sub_self]at hc;exact⟨_,#[a],w,sl,0,_,_,_,.sp k 5,0,0,a,0,0,rfl,rfl,hc,hcore,hwg,hmode (.sp k 5) trivial rfl (by simp),rfl⟩
end
end Go.Ren
namespace Go.Proofs.YtheibfffilomcabGreatDoor
open Go.Ren Go.Conc Go.ConcN Go.RowKit Go.Conc.Lib Go.ConcR.Gen Go.ConcN.Gen Go.Proofs.Tryz
open Go.ConcR (KK wgBlock WgAt stA smA rd wr Payload Aside2 DC0 ofEvent_cell)
set_option linter.unusedSimpArgs false
set_option linter.unusedVariables false
abbrev link:Go.Conc.Lib.WgLink:={add:=12,done:=14,wait:=17,relMerge:=25,disable:=26,enable:=27,inBubble:=28,associate:=29,fatal:=30,uOr:=31,uAdd:=32,raceRead:=33,uLoad:=34,uStore:=35,disassociate:=36,semrelease:=37,acquire:=42,isAssociated:=43,uCas:=44,raceWrite:=45,semacquire:=46,orU64:=66,addU64:=67,loadU64:=68,storeU64:=69,casU64:=81,tWgP:=77,tUP:=79,tAssoc:=80,tWg:=47,tAU:=44,tU64:=42,tUint:=83,tU32:=45,tPU32:=84,tPAU:=135,tPU64:=137,tNoCopy:=39,tANoCopy:=40,tAlign64:=41}
theorem Kv:Go.Conc.Lib.WgLib prog link:=
 ⟨func12,func14,func17,func25,func26,func27,func28,func29,func30,func31,func32,func33,func34,func35,func36,func37,func42,func43,func44,func45,func46,func66,func67,func68,func69,func81,underlying77,runUnderlying77,sizeOf77,isAgg77,zeroValue77,underlying79,runUnderlying79,sizeOf79,isAgg79,zeroValue79,underlying80,runUnderlying80,sizeOf80,isAgg80,zeroValue80,underlying47,runUnderlying47,sizeOf47,isAgg47,zeroValue47,underlying44,runUnderlying44,sizeOf44,isAgg44,zeroValue44,underlying42,runUnderlying42,sizeOf42,isAgg42,zeroValue42,underlying83,runUnderlying83,sizeOf83,isAgg83,zeroValue83,underlying45,runUnderlying45,sizeOf45,isAgg45,zeroValue45,underlying84,runUnderlying84,sizeOf84,isAgg84,zeroValue84,underlying135,runUnderlying135,sizeOf135,isAgg135,zeroValue135,underlying137,runUnderlying137,sizeOf137,isAgg137,zeroValue137,underlying0,runUnderlying0,sizeOf0,isAgg0,zeroValue0,underlying3,runUnderlying3,sizeOf3,isAgg3,zeroValue3,underlying4,runUnderlying4,sizeOf4,isAgg4,zeroValue4,underlying9,runUnderlying9,sizeOf9,isAgg9,zeroValue9,underlying20,runUnderlying20,sizeOf20,isAgg20,zeroValue20,underlying21,runUnderlying21,sizeOf21,isAgg21,zeroValue21,by kernel_rfl,by kernel_rfl⟩
instance:Payload:=⟨9⟩
end Go.Proofs.YtheibfffilomcabGreatDoor
namespace Go.Proofs.YtheibfffilomcabGreatDoor
open Go.Ren Go.Conc Go.ConcN Go.RowKit Go.Conc.Lib Go.ConcR.Gen Go.ConcN.Gen Go.Proofs.Tryz
open Go.ConcR (KK wgBlock WgAt stA smA rd wr Payload Aside2 DC0 ofEvent_cell)
set_option linter.unusedSimpArgs false
set_option linter.unusedVariables false
def b13:Frame:=baseD 13
noncomputable def bot:Frame:={(default:Frame)with fn:=prog.funcs.size,defers:=[],mode:=.panicking [goexitEntry]}
noncomputable def qM:Code:=f13.body.getD .skip
noncomputable def mR:Array Oper:=match qM with| .seq _ (.seq _ (.seq _ (.region _ ops _)))=>ops|_=>#[]
theorem vO:(prog.funcs[b13.fn]?).any (·.norace)=false:=by kernel_rfl
section
variable {C n j:Nat} {w w₁:World}
theorem O9 (h:PayAt C n w) (hj:j<n):∃u,w.cell? ⟨C,j,none⟩=some u∧w.frozen? ⟨C,j,none⟩=false:=by obtain⟨arr,h1,h2⟩:=h;exact⟨arr[j]'(by omega),by simp[World.cell?,h1,h2,hj],by simp[World.frozen?,h1]⟩
theorem Em (hp:PayAt C n w) (v:Value):(∃arr,w.heap[C]? =some (.cells arr Payload.ety)∧arr.size=n∧(w.setCell ⟨C,j,none⟩ v).heap[C]? =some (.cells (arr.setIfInBounds j v) Payload.ety)):=by obtain⟨arr,h1,h2⟩:=hp;exact⟨arr,h1,h2,by rw[setCell_eq_setRow w C j arr _ (0,0) _ h1,setRow_heap w C _ _ _ _ h1]⟩
theorem xN (hp:PayAt C n w) (v:Value):AsideCell C n j w (w.setCell ⟨C,j,none⟩ v):=by have hA:=aside_setCell w ⟨C,j,none⟩ v;obtain⟨arr,h1,h2,hb⟩:=Em (j:=j) hp v;refine⟨hA.tape,hA.os,hA.output,hA.size,fun b hb'=>hA.block b hb',fun _=>⟨_,hb,by simpa using h2⟩,fun i' hi'=>?_⟩;simp[World.cell?,hb,h1,Array.getElem?_setIfInBounds_ne (Ne.symm hi')]
theorem Ld (hp:PayAt C n w) (hj:j<n) (v:Value):Has C j v (w.setCell ⟨C,j,none⟩ v):=by obtain⟨arr,h1,h2,hb⟩:=Em (j:=j) hp v;simp[Has,World.cell?,hb,h2,hj]
theorem Q0 {Wg:Nat}:EvW Wg (yA C) NM (j+1) ⟨.cell ⟨C,j,none⟩,true,false⟩:=by refine⟨fun fn pos=>⟨rfl,fun y hy=>?_⟩,by simp,by simp,by simp⟩;simp only[ofEvent_cell,MemAct.touch?,sJ]at hy;subst hy;exact .inr (.inl ⟨by omega,by simp⟩)
end
section
variable {main:Bool} {b:Frame} {a:Act} {kk:List Item} {cs:List Frame} {w:World} {ops:Array Oper} {i:Nat} {rest:List Nat} {o:Oper}
theorem Dh {x y:Operand} (ho:ops[i]? =some o) (hw:Region.wanted o (yielded ops a.tmps)=true) (hk:b.kind≠ .early) (hop:o.op= .store 9 x y)
 {ad:Addr} {U:ByteArray} {u:Value} (hx:a.eval x= .pointer (some ad)) (hy:a.eval y= .string U) (hc:w.cell? ad=some u) (hz:w.frozen? ad=false) (hq:(prog.funcs[b.fn]?).any (·.norace)=false):
 stepG prog main (G (b.at a (.inRegion ops (i::rest)::kk)) cs) w= .go (G (b.at (a.put o.dst undef) (.inRegion ops rest::kk)) cs) (w.setCell ad (.string U)) #[⟨.cell ad,true,false⟩]:=by
 have hr:(execOp a.eval o).run prog w= .ok .skip (w.setCell ad (.string U)):=by unfold execOp;simp only[hop,hx,hy];simp[go_sem,stored,hc,hz]
 have he:(execOp a.eval o).events prog w #[]= #[⟨.cell ad,true,false⟩]:=by unfold execOp;simp only[hop,hx,hy];have e:=events_store prog w #[] ad (.string U) .plain rfl;simp[go_sem,e,storedEv,hc,hz]
 rw[stepG_none ho hw hk hr];unfold listed;rw[he,Go.Conc.seen_eq hq (by simp)]
end
theorem LQ (T:Array Value):QuitsD prog 2 0 (G {b13.at ⟨T,[]⟩ []with mode:=.returning} [bot]):=by
 refine QuitsD.ctl (g':=G bot []) rfl (fun w=>?_) ?_
 ·simp[G,stepG,unwind,doReturn,results,Frame.at,b13,baseD,bot,func13,f13,seen,GStep.after,goexitEntry]
 refine QuitsD.ctl (g':={G bot []with status:=.finished}) rfl (fun w=>?_) ⟨rfl,rfl⟩;simp[G,stepG,unwind,bot,goexitEntry,Frame.catches];rfl
def WK (Wg C n:Nat) (w:World):Prop:=WgLive 47 Wg w∧PayAt C n w
theorem Kw {Wg C n j:Nat} {w w₁:World} (h:WK Wg C n w) (r:RW 47 Wg C n 0 (j+1-1) w w₁):WK Wg C n w₁:=⟨r.live h.1,r.pay h.2⟩
theorem Jj {Wg C n j:Nat} (hCW:C≠Wg) (hj:j<n) (afz:n≤16) (U:ByteArray) (cap:Nat) (v0 v1 v2 v3 v4 v5 v6 v7 v8 v9 v10 v11 v12 v15 v17:Value) (w:World) (hF:WK Wg C n w):
 Goes prog false (RW 47 Wg C n 0 (j+1-1)) (DWs Wg (yA C) NM C n (j+1)) (AtR0 prog 47 Wg C n 0 (j+1) (.string U)) 28
  (G (b13.at ⟨#[v0,v1,v2,v3,v4,v5,v6,v7,v8,v9,v10,v11,v12,.slice (some ⟨C,0,none⟩) n cap,.int .i64 j,v15,.string U,v17],[dcall 14 #[.pointer (some ⟨Wg,0,none⟩)]]⟩ [.inRegion mR [4,5]]) [bot]) w:=by
 simp only[mR,qM,f13,Option.getD_some];have hlt:(j:Int)<(n:Int):=by omega
 have hj0:(0:Int)≤(j:Int):=by omega
 u_op Kw hF
 u_in Kw hF
 obtain⟨u,hu1,hu2⟩:=O9 hF.2 hj;rw[Dh rfl rfl (by decide) rfl rfl rfl hu1 hu2 vO];simp only[goes_go];refine⟨⟨xN hF.2 _,fun e he=>?_⟩,?_⟩
 ·rw[Array.mem_singleton]at he;subst he;exact Q0
 have hK:=And.intro (let⟨st,sm,h⟩:=hF.1;(⟨st,sm,h.of_block ((aside_setCell _ ⟨C,j,none⟩ (.string U)).block Wg (by simpa using Ne.symm hCW))⟩:WgLive 47 Wg _)) (Ld hF.2 hj (.string U));clear hF hu1 hu2
 u_c stepG_region_end kn_rely hK
 u_c stepG_end kn_rely hK
 u_in kn_rely hK
 rw[stepG_unwind_enter rfl func14 (nm_done link) rfl];simp only[goes_go];refine⟨by u_nil,?_⟩
 walk_nrmf f14
 have hA:=@doneN _ link prog Kv (yA C) NM Wg C n 0 (j+1) (.string U);simp only[body_done,doneFn,Option.getD_some]at hA;exact hA rfl (LQ _) _ hK
end Go.Proofs.YtheibfffilomcabGreatDoor
namespace Go.Ren
open Go.Conc Go.ConcN Go.RowKit
open Go.ConcR (DC0)
set_option linter.unusedSimpArgs false
set_option linter.unusedVariables false
set_option linter.unusedSectionVars false
def Ii (ops:Array Oper) (listed:Array Bool):List Nat:=
 (List.range ops.size).filter fun i=> !listed.getD i true&&((ops[i]?).map (·.after.all fun e=> !Region.binds .any e||listed.getD e.on false)).getD false
def qH (ops:Array Oper):Nat→Array Bool→List (List Nat)
 | 0,_=>[[]]
 |fuel+1,listed=>match Ii ops listed with
  | []=>[[]]
  |rs=>rs.flatMap fun i=>(qH ops fuel (listed.setIfInBounds i true)).map (i:: ·)
theorem Kc (ops:Array Oper):∀(fuel t:Nat) (listed:Array Bool) (acc:List Nat),∃l,l∈qH ops fuel listed∧Region.linearise.go .any ops fuel t listed acc=acc.reverse++l
 | 0,t,listed,acc=>⟨[],by simp[qH],by simp[Region.linearise.go]⟩
 |fuel+1,t,listed,acc=>by
  have hrs:((List.range ops.size).filter fun i=> !listed.getD i true&&((ops[i]?).map (·.after.all fun e=> !Region.binds .any e||listed.getD e.on false)).getD false)=Ii ops listed:=rfl;unfold Region.linearise.go;simp only[hrs];unfold qH;cases hr:Ii ops listed with
  |nil=>exact⟨[],by simp,by simp⟩
  |cons x xs=>
   cases hi:(x::xs)[t % (x::xs).length]? with
   |none=>have:t % (x::xs).length<(x::xs).length:=Nat.mod_lt _ (by simp);rw[List.getElem?_eq_none_iff]at hi;omega
   |some i=>obtain⟨l,h1,h2⟩:=Kc ops fuel (t / (x::xs).length) (listed.setIfInBounds i true) (i::acc);refine⟨i::l,?_,by simp only[h2];simp⟩;simp only[List.mem_flatMap,List.mem_map];exact⟨i,List.mem_of_getElem? hi,l,h1,rfl⟩
theorem vT {P:Program} (hm:P.follows .mixedOrders=true) (ops:Array Oper) (t:Nat):Region.schedule (P.follows .mixedOrders) ops t∈qH ops ops.size (Array.replicate ops.size false):=by unfold Region.schedule Region.linearise;rw[hm];simp only[Bool.true_or, ↓reduceIte];obtain⟨l,h1,h2⟩:=Kc ops ops.size t (Array.replicate ops.size false) [];rw[h2];simpa using h1
section
variable {P:Program} {main:Bool} {Bs S:Nat→Prop} {Stop Stop':(Nat→Prop)→Goroutine→World→Prop}
theorem GE.uJ:∀{m:Nat} {g:Goroutine} {w:World},Goes P main (RY fun b=>Bs b∨S b) DC0 (fun g w=>GE P main Bs Stop S g w) m g w→GE P main Bs Stop S g w
 | 0,g,w,h=>h w (.refl w)
 |m+1,g,w,h=>by
  rcases h with h|⟨hr,h⟩
  ·exact h w (.refl w)
  ·refine GE.step hr fun w₁ q=>?_;obtain⟨g',w',es,e,⟨rfl,rfl⟩,h3⟩:=goes_elim (h w₁ q);exact⟨g',_,#[],e,.idle _,by rw[gV];exact GE.uJ h3⟩
theorem GE.frame {X:Nat→Prop} (hs:∀S g w,Stop S g w→Stop' (fun b=>S b∨X b) g w) {g:Goroutine} {w:World} (h:GE P main (fun b=>Bs b∨X b) Stop S g w):GE P main Bs Stop' (fun b=>S b∨X b) g w:=by
 obtain⟨r,h⟩:=h;induction r generalizing S g w with
 |none=>exact h.elim
 |leaf=>exact GE.stop fun w₁ q=>hs _ _ _ (h w₁ (q.mono fun x hx=>hx.elim (fun h=>h.elim .inl fun h=>.inr (.inr h)) fun h=>.inr (.inl h)))
 |node f ih=>
  refine GE.step h.1 fun w₁ q=>?_;obtain⟨g',w',es,e,y,h3⟩:=h.2 w₁ (q.mono fun x hx=>hx.elim (fun h=>h.elim .inl fun h=>.inr (.inr h)) fun h=>.inr (.inl h));have y':GY Bs (fun b=>S b∨X b) w₁ w' es:=by
   refine⟨fun b hb hn=>y.keep b hb fun x=>hn (.inl x),y.size,y.tape,y.os,y.output,fun ev hev=>?_⟩;rcases y.evs ev hev with⟨a,h5,h6⟩|⟨a,h5,h6⟩|h5
   ·refine .inl ⟨a,h5,?_⟩;rcases h6 with h6|h6|⟨h6|h6,h7⟩
    ·exact .inl (.inl h6)
    ·exact .inr (.inl h6)
    ·exact .inr (.inr ⟨h6,h7⟩)
    ·exact .inl (.inr h6)
   ·refine .inr (.inl ⟨a,h5,?_⟩);rcases h6 with h6|h6|⟨h6|h6,h7⟩
    ·exact .inl (.inl h6)
    ·exact .inr (.inl h6)
    ·exact .inr (.inr ⟨h6,h7⟩)
    ·exact .inl (.inr h6)
   ·exact .inr (.inr h5)
  have eS:grown (fun b=>S b∨X b) w₁ w'=fun b=>grown S w₁ w' b∨X b:=by
   funext b;apply propext;unfold grown;constructor
   ·rintro((h|h)|h)
    ·exact .inl (.inl h)
    ·exact .inr h
    ·exact .inl (.inr h)
   ·rintro((h|h)|h)
    ·exact .inl (.inl h)
    ·exact .inr h
    ·exact .inl (.inr h)
  exact⟨g',w',es,e,y',by rw[eS];exact ih _ h3⟩
theorem GE.read {g g':Goroutine} {w:World} {ad:Addr} (hr:g.status= .running) (hB:Bs ad.block∨S ad.block) (h:∀w₁,RY (fun b=>Bs b∨S b) w w₁→stepG P main g w₁= .go g' w₁ #[⟨.cell ad,false,false⟩]∧GE P main Bs Stop S g' w₁):GE P main Bs Stop S g w:=by refine GE.step hr fun w₁ q=>?_;obtain⟨h1,h2⟩:=h w₁ q;refine⟨g',w₁,_,h1,⟨fun _ _ _=>rfl,Nat.le_refl _,rfl,rfl,rfl,fun e he=>?_⟩,by rw[gV];exact h2⟩;rw[Array.mem_singleton]at he;subst he;exact .inl ⟨ad,rfl,hB.elim (fun x=>.inr (.inr ⟨x,rfl⟩)) .inl⟩
theorem GE.draw {g:Goroutine} {w:World} (hr:g.status= .running) (h:∀w₁,RY (fun b=>Bs b∨S b) w w₁→∃g',stepG P main g w₁= .go g' {w₁ with drawn:=w₁.drawn+1} #[]∧GE P main Bs Stop S g' {w₁ with drawn:=w₁.drawn+1}):GE P main Bs Stop S g w:=by refine GE.step hr fun w₁ q=>?_;obtain⟨g',h1,h2⟩:=h w₁ q;have e:grown S w₁ {w₁ with drawn:=w₁.drawn+1}=S:=gV S w₁;exact⟨g',_,_,h1,⟨fun _ _ _=>rfl,Nat.le_refl _,rfl,rfl,rfl,fun e he=>by simp at he⟩,by rw[e];exact h2⟩
end
end Go.Ren
namespace Go.Ren
open Go.Conc Go.ConcN Go.RowKit
open Go.ConcR (DC0)
set_option linter.unusedSimpArgs false
set_option linter.unusedVariables false
set_option linter.unusedSectionVars false
section
variable {P:Program} {main:Bool} {Bs S:Nat→Prop} {Stop Stop':(Nat→Prop)→Goroutine→World→Prop}
def Ec (Bs:Nat→Prop) (F:World→Prop):Prop:=∀w w',(∀b,Bs b→w'.heap[b]? =w.heap[b]?)→w.heap.size≤w'.heap.size→w'.os=w.os→F w→F w'
theorem GE.Lv {L:Nat} (hL:∀b,b<L→Bs b) {F:World→Prop} (hF:Ec Bs F) {g:Goroutine} {w:World} (h:ow P main L Stop S g w) (hd:∀b,Bs b→b<w.heap.size∧¬S b) (h0:F w)
 (hs:∀S g w,Stop S g w→F w→(∀b,Bs b→b<w.heap.size∧¬S b)→GE P main Bs Stop' S g w):GE P main Bs Stop' S g w:=by
 induction h with
 |stop h=>exact hs _ _ _ (h _ (.refl _)) h0 hd
 | @step S g w hr h1 _ ih=>
   refine GE.step hr fun w₁ q=>?_;have q':um L S w w₁:=⟨fun b hb=>q.keep b (hb.imp (hL b) id),q.size,q.os⟩;obtain⟨g',w',es,h3,h4⟩:=h1 w₁ q';have hz:=q.size;have hz':=h4.size;refine⟨g',w',es,h3,⟨h4.frame,h4.size,h4.tape,h4.os,h4.output,fun e he=>?_⟩,ih w₁ g' w' es q' h3 (fun b hb=>⟨by have:=(hd b hb).1;omega,fun x=>?_⟩) ?_⟩
   ·rcases h4.evs e he with⟨a,h5,h6⟩|⟨a,h5,h6⟩|h5
    ·exact .inl ⟨a,h5,h6.imp id (Or.imp id fun x=>⟨hL _ x.1,x.2⟩)⟩
    ·exact .inr (.inl ⟨a,h5,h6.imp id (Or.imp id fun x=>⟨hL _ x.1,x.2⟩)⟩)
    ·exact .inr (.inr h5)
   ·rcases x with x|x
    ·exact(hd b hb).2 x
    ·have:=(hd b hb).1;omega
   ·exact hF _ _ (fun b hb=>(h4.frame b (by have:=(hd b hb).1;omega) (hd b hb).2).trans (q.keep b (.inl hb))) (Nat.le_trans hz hz') (h4.os.trans q.os) h0
variable {fs:FuncId→Bool} {gs:FuncId→Tmp→Bool}
theorem rQ {L:Nat} {T:(Nat→Nat)→Prop} (Kt:Kit P fs gs L T) (hL:∀b,b<L→Bs b) {F:World→Prop} (hF:Ec Bs F) {Post:Value→World→Prop} (hP:∀v V τ d,Post v V→Post v (on V τ d)) {f:FuncId} {fn:Func} {jW:Array Value} {V:World}
 (hf:fs f=true) (hroot:∀fn,P.funcs[f]? =some fn→fn.results.all oM=true) (hn:NP V) (hcl:∀τ,T τ→Clean τ V∧jW.map (mv τ)=jW) (hc:∀t d,Calls P f jW (on V t d) fun e w=>∃v,e= .returned v∧Post v w)
 {π:Nat→Nat} {w:World} (hr:HR L π V w) {b:Frame} {a:Act} {ops:Array Oper} {i:Nat} {rest:List Nat} {k:List Item} {cs:List Frame} {o:Oper} {as:Array Operand} {ats:Array TypeId}
 (ho:ops[i]? =some o) (hw:Region.wanted o (yielded ops a.tmps)=true) (hk:b.kind≠ .early) (hop:o.op= .call {callee:=.value (.func f),args:=as,argTypes:=ats}) (hfn:P.funcs[f]? =some fn) (hname:(fn.name== "runtime.NumGoroutine")=false) (hb:fn.body.isNone=false)
 (hargs:∀w₁ ρ,Ext π V w₁ ρ→as.map a.eval=jW.map (mv ρ)) (hd:∀x,Bs x→x<w.heap.size∧¬own L π V x) (h0:F w)
 (hnext:∀zU V' v w',HR L zU V' w'→(V.heap.size≤V'.heap.size∧∀x,x<V.heap.size→zU x=π x)→Tidy T Post v V'→F w'→(∀x,Bs x→x<w'.heap.size∧¬own L zU V' x)→GE P main Bs Stop (own L zU V') (G (b.at (a.put o.dst (mv (canon zU V' w') v)) (.inRegion ops rest::k)) cs) w'):
 GE P main Bs Stop (own L π V) (G (b.at a (.inRegion ops (i::rest)::k)) cs) w:=by
 refine GE.step rfl fun w₁ q=>?_;have hl:listed P b.fn a o w₁= #[]:=by unfold listed;rw[events_call_body hop hfn hname hb];exact seen_none P _
 refine⟨_,w₁,_,stepG_enter ho hw hk (run_call_body hop hfn hname hb),by rw[hl];exact .idle _,?_⟩;rw[gV];have hr1:HR L π V w₁:=hr.rely ⟨fun x hx=>q.keep x (hx.imp (hL x) id),q.size,q.os⟩;have h01:F w₁:=hF _ _ (fun x hx=>q.keep x (.inl hx)) q.size q.os h0;refine GE.Lv hL hF (Co (main:=main) (c:=b.at a (.inRegion ops (i::rest)::k)) (cs:=cs) Kt hP hf hroot hn hcl hc hr1 (fun ρ e=>by rw[←hargs w₁ ρ e];rfl)) (fun x hx=>⟨by have:=(hd x hx).1;have:=q.size;omega,(hd x hx).2⟩) h01 ?_;rintro S g w' ⟨zU,V',v,rfl,hr',hag,ht,hg⟩ hF' hd';have e0:=iY hr';rw[hg _ e0,Frame.finish_at,ho];exact hnext zU V' v w' hr' hag ht hF' hd'
end
end Go.Ren
