import Derived.Test.YtheibfffilomcabGreatDoorR22U
import Derived.Calls
set_option linter.all false
namespace Go.Ren
set_option linter.unusedSimpArgs false
set_option linter.unusedVariables false
variable {P:Program} {fs:FuncId→Bool}
theorem CE (a:Addr):bW id a=a:=rfl
theorem Ke {α:Type} (f:α→α) (h:∀x,f x=x) (o:Option α):o.map f=o:=by cases o<;>simp[h]
theorem uy (cs:Array Value) (h:∀x∈cs,mv id x=x):cs.map (mv id)=cs:=by have:cs.map (mv id)=cs.map id:=Array.map_congr_left h;rw[this,Array.map_id]
theorem zb:(v:Value)→mv id v=v
 | .bool b=>by simp only[mv]
 | .int k n=>by simp only[mv]
 | .float k b=>by simp only[mv]
 | .complex k a b=>by simp only[mv]
 | .string s=>by simp only[mv]
 | .pointer a=>by simp only[mv];rw[Ke _ CE]
 | .slice a l c=>by simp only[mv];rw[Ke _ CE]
 | .map r=>by simp only[mv];rw[Option.map_id];rfl
 | .chan r=>by simp only[mv];rw[Option.map_id];rfl
 | .func fn f c=>by simp only[mv];rw[uy f fun x hx=>zb x,uy c fun x hx=>zb x]
 | .nilFunc=>by simp only[mv]
 | .iface t v=>by simp only[mv];rw[zb v]
 | .nilIface=>by simp only[mv]
 | .agg cs=>by simp only[mv];rw[uy cs fun x hx=>zb x]
 | .tuple cs=>by simp only[mv];rw[uy cs fun x hx=>zb x]
 termination_by v=>SizeOf.sizeOf v
 decreasing_by
  all_goals simp_wf
  all_goals first
   |(have:=Array.sizeOf_lt_of_mem hx;omega)
   |omega
theorem tu (cs:Array Value):cs.map (mv id)=cs:=uy cs fun x _=>zb x
theorem CF (o:Obj):lM id o=o:=by cases o<;>simp[lM,tu,CE]
theorem Vb (m:Mark):We id m=m:=by cases m<;>rfl
theorem Va (e:Event):lK id e=e:=by obtain⟨l,a,b⟩:=e;cases l<;>simp[lK,iq,CE,Vb]
theorem QT (es:Array Event):es.map (lK id)=es:=by have:es.map (lK id)=es.map id:=Array.map_congr_left fun e _=>Va e;rw[this,Array.map_id]
theorem U_ (d:Deferred):zU id d=d:=by obtain⟨t,a⟩:=d;cases t<;>simp[zU,Zw,tu]
theorem H7 (f:Frame):dL id f=f:=by
 obtain⟨fn,tmps,todo,defers,mode,kind,round⟩:=f;have hd:defers.map (zU id)=defers:=by have:defers.map (zU id)=defers.map id:=List.map_congr_left fun d _=>U_ d;rw[this,List.map_id]
 have hm:gZ id mode=mode:=by
  cases mode with
  |panicking ch=>
   have:ch.map (fun e=>({e with v:=mv id e.v}:PanicEntry))=ch:=by
    have:ch.map (fun e=>({e with v:=mv id e.v}:PanicEntry))=ch.map id:=List.map_congr_left fun e _=>by simp[zb]
    rw[this,List.map_id]
   simp only[gZ,this]
  |_=>rfl
 simp only[dL,tu,hd,hm]
theorem JX (l:List Frame):l.map (dL id)=l:=by have:l.map (dL id)=l.map id:=List.map_congr_left fun f _=>H7 f;rw[this,List.map_id]
theorem kE {f f':Frame} {l l':List Frame} {st st':GoStatus} (h:cz f l st=cz f' l' st'):f=f'∧l=l'∧st=st':=by simp only[cz,Goroutine.mk.injEq]at h;exact⟨h.1,h.2.1,h.2.2.1⟩
theorem gB.inv {ρ:Nat→Nat} {cs cs':List Frame} {V W:World} {x y:GStep} (h:gB P ρ fs cs cs' V W x y) {g:Goroutine} {V1:World} {es:Array Event} (e:x= .go g V1 es):
 ∃f l st W1,(st= .running∨st= .blocked)∧g=cz f (l++cs) st∧y= .go (cz (dL ρ f) (l.map (dL ρ)++cs') st) W1 (es.map (lK ρ))∧dZ fs f∧(∀x∈l,dZ fs x)∧Out ρ V W V1 W1∧∀e∈es,mH V1.heap.size e.loc∨(e.loc= .output∧∃ch,f.mode= .panicking ch):=by
 cases h with
 |go hst hf hl ho he=>cases e;exact⟨_,_,_,_,hst,rfl,rfl,hf,hl,ho,he⟩
 |spawn=>cases e
 |bad=>cases e
def on (V:World) (τ:Nat→Question→Nat) (d:Nat):World:={V with tape:=τ,drawn:=d}
@[simp] theorem aeH (V:World) (τ zV:Nat→Question→Nat) (d d':Nat):on (on V τ d) zV d'=on V zV d':=rfl
theorem qa (H:OkS P id fs) (hgo:P.follows .goNilFatal=true→fs fM=false) {main:Bool} {fr f':Frame} {l l' cs:List Frame} {V V':World} {es:Array Event} {τ zV:Nat→Question→Nat} {d d':Nat}
 (hfr:dZ fs fr) (hl:∀x∈l,dZ fs x) (hn:NP V) (hex:fr.mode= .run∨fr.defers≠[]∨l≠[])
 (h:stepG P main (cz fr (l++cs) .running) (on V τ d)= .go (cz f' (l'++cs) .running) V' es) (eY:∀i,d+i<V'.drawn→τ (d+i)=zV (d'+i)):
 stepG P main (cz fr (l++cs) .running) (on V zV d')= .go (cz f' (l'++cs) .running) (on V' zV (d'+(V'.drawn-d))) es∧dZ fs f'∧(∀x∈l',dZ fs x)∧NP V'∧d≤V'.drawn∧V'.tape=τ:=by
 have hw:WR id (on V τ d) (on V zV d'):=⟨fun b=>by cases hb:V.heap[b]? <;>simp[on,hb,CF],hn,rfl⟩;have ha:Align id (on V τ d) (on V zV d') (mP (stepG P main (cz fr (l++cs) .running) (on V τ d))):=by rw[h];exact⟨fun i _=>rfl,eY⟩
 have:=De (cs:=cs) (cs':=cs) (main:=main) (main':=main) (st:=.running) (st':=.running) H hgo hfr hl hw hex ha;rw[h,H7,JX]at this;obtain⟨f,l1,st,W1,_,e1,e2,h1,h2,ho,_⟩:=this.inv rfl;obtain⟨rfl,e3,rfl⟩:=kE e1;obtain rfl:=List.append_cancel_right e3;rw[H7,JX,QT]at e2;have hheap:W1.heap=V'.heap:=by apply Array.ext_getElem?;intro b;have:=ho.wr.eq b;rw[show(id b:Nat)=b from rfl]at this;rw[this];cases V'.heap[b]? <;>simp[CF]
 have hd:=ho.drawn;have hvd:=ho.Ja;simp only[on]at hd hvd;have hW:W1=on V' zV (d'+(V'.drawn-d)):=by
  have a1:=ho.tape;have a2:=ho.wr.os;have a3:=ho.output;have a4:=ho.VU;obtain⟨wh,wt,wd,wo,wu⟩:=W1;simp only[on]at*;subst hheap a1 a2;rw[a3, ←a4];have:wd=d'+(V'.drawn-d):=by omega
  rw[this]
 rw[hW]at e2;exact⟨e2,h1,h2,ho.wr.kg,hvd,ho.Gf⟩
end Go.Ren
namespace Go.Ren
set_option linter.unusedSimpArgs false
set_option linter.unusedVariables false
variable {P:Program} {fs:FuncId→Bool}
def z_ (g:Goroutine) (w:World):Machine:={world:=w,gs:=#[g],rest:={timers:=#[],alone:=none,slice:=none}}
theorem Ka (fr:Frame) (cs:List Frame) (w:World):lone fr cs w=z_ (cz fr cs .running) w:=rfl
theorem xC {fr:Frame} {cs:List Frame} {w w':World} {g:Goroutine} {es:Array Event} (h:stepG P true (cz fr cs .running) w= .go g w' es):step P (lone fr cs w)= .next (z_ g w'):=by unfold step stepT;rw[move_lone];simp only[runT,lone,Array.swapAt!];simp only[cz]at h;simp[h,Array.swapAt,z_,GStep.es]
theorem jR {fr:Frame} {cs:List Frame} {w w':World} {o:Outcome} {es:Array Event} (h:stepG P true (cz fr cs .running) w= .ended o w' es):step P (lone fr cs w)= .ended o w':=
 step_lone_ended (by simp only[cz]at h;rw[h];rfl)
def trap (P:Program):Frame:={fn:=P.funcs.size,tmps:=#[],todo:=[.code (.refuse "")],defers:=[{target:=.nil,args:=#[]}],mode:=.run,kind:=.normal}
theorem MI (w:World):∃o w' es,stepG P true (cz (trap P) [] .running) w= .ended o w' es:=⟨_,_,_,rfl⟩
theorem I_ (ch:List PanicEntry) (w:World):∃o w' es,stepG P true (cz ((trap P).raise ch) [] .running) w= .ended o w' es:=⟨_,_,_,rfl⟩
theorem falls {fr:Frame} {w:World} (hfr:dZ fs fr) (h:¬(fr.mode= .run∨fr.defers≠[]∨([]:List Frame)≠[])):
 (∃o w' es,stepG P true (cz fr [trap P] .running) w= .ended o w' es)∨∃g w1 es,stepG P true (cz fr [trap P] .running) w= .go g w1 es∧(g=cz (trap P) [] .running∨∃ch,g=cz ((trap P).raise ch) [] .running):=by
 obtain⟨fn,tmps,todo,defers,mode,kind,round⟩:=fr;have hd:defers=[]:=by
  cases defers with
  |nil=>rfl
  |cons d ds=>exact absurd (.inr (.inl (by simp))) h
 subst hd;have ret:∀{v:Value} {w:World},∃es,doReturn P true {fn:=fn,tmps:=tmps,todo:=todo,defers:=[],mode:=.returning,kind:=kind,roundOf:=round} [trap P] none v w= .go (cz (trap P) [] .running) w es:=by intro v w;cases kind<;>exact⟨_,rfl⟩
 cases mode with
 |run=>exact absurd (.inl rfl) h
 |panicking ch=>
  have cat:Frame.catches P {fn:=fn,tmps:=tmps,todo:=todo,defers:=[],mode:=.panicking ch,kind:=kind,roundOf:=round}=false:=by
   unfold Frame.catches;cases P.funcs[fn]? with
   |some f=>rfl
   |none=>
    cases todo with
    |nil=>rfl
    |cons i k=>have:=hfr.todo i (by simp);cases i<;>first|rfl|exact Bool.noConfusion this
  have e:stepG P true (cz {fn:=fn,tmps:=tmps,todo:=todo,defers:=[],mode:=.panicking ch,kind:=kind,roundOf:=round} [trap P] .running) w= .go (cz ((trap P).raise ch) [] .running) w:=by simp[stepG,cz,unwind,cat]
  exact .inr ⟨_,_,_,e,.inr ⟨ch,rfl⟩⟩
 |returning=>
  cases hf:P.funcs[fn]? with
  |none=>
   obtain⟨x,hx⟩:=ret (v:=tmps.getD 0 undef) (w:=w);have e:stepG P true (cz {fn:=fn,tmps:=tmps,todo:=todo,defers:=[],mode:=.returning,kind:=kind,roundOf:=round} [trap P] .running) w= .go (cz (trap P) [] .running) w x:=by rw[←hx];simp[stepG,cz,unwind,hf]
   exact .inr ⟨_,_,_,e,.inl rfl⟩
  |some f=>
   rcases hr:(results f tmps).runT P w #[]with⟨r,es'⟩;cases r with
   |halt h' w'=>
    have:∃o x,stepG P true (cz {fn:=fn,tmps:=tmps,todo:=todo,defers:=[],mode:=.returning,kind:=kind,roundOf:=round} [trap P] .running) w= .ended o w' x:=by have hr1:=hr;cases h'<;>(simp only[stepG,cz,unwind,hf];rw[hr1];exact⟨_,_,rfl⟩)
    obtain⟨o,x,e⟩:=this;exact .inl ⟨_,_,_,e⟩
   |ok v w'=>
    obtain⟨x,hx⟩:=ret (v:=v) (w:=w');have e:∃y,stepG P true (cz {fn:=fn,tmps:=tmps,todo:=todo,defers:=[],mode:=.returning,kind:=kind,roundOf:=round} [trap P] .running) w= .go (cz (trap P) [] .running) w' y:=by simp only[stepG,cz,unwind,hf];rw[hr];dsimp only;rw[hx];exact⟨_,rfl⟩
    obtain⟨y,e⟩:=e;exact .inr ⟨_,_,_,e,.inl rfl⟩
end Go.Ren
namespace Go.Ren
set_option linter.unusedSimpArgs false
set_option linter.unusedVariables false
variable {P:Program} {fs:FuncId→Bool}
theorem wF {fr:Frame} {cs:List Frame} {st:GoStatus} {w:World} (h:st= .blocked):∃o w',step P (z_ (cz fr cs st) w)= .ended o w':=by subst h;unfold step stepT;simp only[move,z_,ask,askOn,cz,runnable_eq,due,ahead,Goroutine.canRun,Bool.false_eq_true, ↓reduceIte];simp[choose,pure,Sem.run,Question.forced,Goroutine.canRun,runnable_eq,due,ahead];generalize endWith w 2 _ _=e;cases e<;>exact⟨_,_,rfl⟩
inductive Tm (P:Program) (Fin:Frame→World→Prop):Frame→List Frame→World→Prop
 |fin {fr:Frame} {V:World}:Fin fr V→Tm P Fin fr [] V
 |step {fr f':Frame} {l l':List Frame} {V V':World} {es:Array Event}:(fr.mode= .run∨fr.defers≠[]∨l≠[])→
   stepG P true (cz fr (l++[trap P]) .running) V= .go (cz f' (l'++[trap P]) .running) V' es→Tm P Fin f' l' V'→Tm P Fin fr l V
theorem ET {g g':Goroutine} {w w':World} (h:z_ g w=z_ g' w'):g=g'∧w=w':=by simp only[z_,Machine.mk.injEq]at h;exact⟨by simpa using h.2.1,h.1⟩
theorem MH (H:OkS P id fs) (hgo:P.follows .goNilFatal=true→fs fM=false) (hng:fs fM=false) {Fin:Frame→World→Prop}:∀(n:Nat) (fr fr':Frame) (l:List Frame) (V w':World),dZ fs fr→(∀x∈l,dZ fs x)→NP V→
 runN P n (lone fr (l++[trap P]) V)= .next (lone fr' [trap P] w')→Fin fr' w'→Tm P Fin fr l V:=by
 intro n;induction n with
 |zero=>
  intro fr fr' l V w' hfr hl hn hr hF;simp only[runN,Stepped.next.injEq]at hr;rw[Ka,Ka]at hr;obtain⟨e1,e2⟩:=ET hr;obtain⟨rfl,e3,_⟩:=kE e1;have:l=[]:=by have:=List.append_cancel_right (as:=l) (bs:=[]) (by simpa using e3);exact this
  subst this e2;exact .fin hF
 |succ n ih=>
  intro fr fr' l V w' hfr hl hn hr hF;simp only[runN]at hr;have stop:∀{g:Goroutine} {w:World},(∃o w',step P (z_ g w)= .ended o w')→g≠cz fr' [trap P] .running→runN P n (z_ g w)≠ .next (lone fr' [trap P] w'):=by
   intro g w he hne h;cases n with
   |zero=>simp only[runN,Stepped.next.injEq]at h;exact hne (ET h).1
   |succ n=>obtain⟨o,w2,he⟩:=he;simp[runN,he]at h
  by_cases hex:fr.mode= .run∨fr.defers≠[]∨l≠[]
  ·have hw:WR id V V:=⟨fun b=>by cases hb:V.heap[b]? <;>simp[hb,CF],hn,rfl⟩;have:=De (cs:=[trap P]) (cs':=[trap P]) (main:=true) (main':=true) (st:=.running) (st':=.running) H hgo hfr hl hw hex ⟨fun i _=>rfl,fun i _=>rfl⟩;generalize hx:stepG P true (cz fr (l++[trap P]) .running) V=x at this;generalize stepG P true (cz (dL id fr) (l.map (dL id)++[trap P]) .running) V=y at this;cases this with
   | @go f l1 st V1 W1 es hst hf hl1 ho he=>
     rw[xC hx]at hr;rcases hst with rfl|rfl
     ·exact .step hex hx (ih f fr' l1 V1 w' hf hl1 ho.wr.kg hr hF)
     ·exact absurd hr (stop (wF rfl) fun e=>by have:=(kE e).2.2;cases this)
   |spawn hg=>rw[hng]at hg;cases hg
   |bad=>rw[jR hx]at hr;cases hr
  ·have hl0:l=[]:=by
    cases l with
    |nil=>rfl
    |cons a b=>exact absurd (.inr (.inr (by simp))) hex
   subst hl0;rcases falls (w:=V) hfr hex with⟨o,w2,es,hx⟩|⟨g,w1,es,hx,hg⟩
   ·rw[List.nil_append,jR hx]at hr;cases hr
   ·rw[List.nil_append,xC hx]at hr;refine absurd hr (stop ?_ ?_)
    ·rcases hg with rfl|⟨ch,rfl⟩
     ·obtain⟨o,w2,es,h⟩:=MI (P:=P) w1;exact⟨_,_,jR h⟩
     ·obtain⟨o,w2,es,h⟩:=I_ (P:=P) ch w1;exact⟨_,_,jR h⟩
    ·intro e;rcases hg with rfl|⟨ch,rfl⟩
     ·have:=(kE e).2.1;cases this
     ·have:=(kE e).2.1;cases this
end Go.Ren
namespace Go.Ren
set_option linter.unusedSimpArgs false
set_option linter.unusedVariables false
variable {P:Program} {fs:FuncId→Bool} {Fin:Frame→World→Prop}
inductive LT (P:Program) (Fin:Frame→World→Prop):Frame→List Frame→World→Prop
 |fin {fr:Frame} {V:World}:(∀τ d,Fin fr (on V τ d))→LT P Fin fr [] V
 |step {fr:Frame} {l:List Frame} {V:World}:(fr.mode= .run∨fr.defers≠[]∨l≠[])→
   (∀τ d,∃f' l' V' es,stepG P true (cz fr (l++[trap P]) .running) (on V τ d)= .go (cz f' (l'++[trap P]) .running) V' es)→
   (∀τ d f' l' V' es,stepG P true (cz fr (l++[trap P]) .running) (on V τ d)= .go (cz f' (l'++[trap P]) .running) V' es→LT P Fin f' l' V')→LT P Fin fr l V
section
theorem P_ (H:OkS P id fs) (hgo:P.follows .goNilFatal=true→fs fM=false) (hF:∀fr V τ d,Fin fr V→Fin fr (on V τ d)) {fr:Frame} {l:List Frame} {W:World} (h:Tm P Fin fr l W):dZ fs fr→(∀x∈l,dZ fs x)→NP W→∀τ2 d2,(∀i,W.tape (W.drawn+i)=τ2 (d2+i))→Tm P Fin fr l (on W τ2 d2):=by
 induction h with
 |fin h=>intro _ _ _ τ2 d2 _;exact .fin (hF _ _ _ _ h)
 | @step fr f' l l' V V' es hex hs _ ih=>
   intro hfr hl hn τ2 d2 ht;have hs':stepG P true (cz fr (l++[trap P]) .running) (on V V.tape V.drawn)= .go (cz f' (l'++[trap P]) .running) V' es:=hs;obtain⟨h1,h2,h3,h4,h5,h6⟩:=qa (zV:=τ2) (d':=d2) H hgo hfr hl hn hex hs' (fun i _=>ht i);refine .step hex h1 (ih h2 h3 h4 _ _ fun i=>?_);rw[h6];have:=ht (V'.drawn-V.drawn+i);rw[show V.drawn+(V'.drawn-V.drawn+i)=V'.drawn+i by omega]at this;rw[this]
   congr 1
   omega
structure BV (P:Program) (fs:FuncId→Bool) (Fin:Frame→World→Prop) where
 fr:Frame
 l:List Frame
 V:World
 ok:dZ fs fr
 oks:∀x∈l,dZ fs x
 np:NP V
 tm:∀τ d,Tm P Fin fr l (on V τ d)
 not:¬LT P Fin fr l V
theorem BV.SA (H:OkS P id fs) (hgo:P.follows .goNilFatal=true→fs fM=false) (hF:∀fr V τ d,Fin fr V→Fin fr (on V τ d)) (c:BV P fs Fin) (hl:c.l=[]) (τ:Nat→Question→Nat) (d:Nat):¬Fin c.fr (on c.V τ d):=by intro h;refine c.not ?_;rw[hl];exact .fin fun zV d'=>hF c.fr (on c.V τ d) zV d' h
theorem BV.next (H:OkS P id fs) (hgo:P.follows .goNilFatal=true→fs fM=false) (hF:∀fr V τ d,Fin fr V→Fin fr (on V τ d)) (c:BV P fs Fin):∃(c':BV P fs Fin) (τ:Nat→Question→Nat) (d:Nat) (es:Array Event),(c.fr.mode= .run∨c.fr.defers≠[]∨c.l≠[])∧
 stepG P true (cz c.fr (c.l++[trap P]) .running) (on c.V τ d)= .go (cz c'.fr (c'.l++[trap P]) .running) c'.V es:=by
 have inv:∀τ d,(c.fr.mode= .run∨c.fr.defers≠[]∨c.l≠[])∧∃f' l' V' es,stepG P true (cz c.fr (c.l++[trap P]) .running) (on c.V τ d)= .go (cz f' (l'++[trap P]) .running) V' es∧Tm P Fin f' l' V':=by
  intro τ d;have h:=c.tm τ d;generalize hl:c.l=l at h;cases h with
  |fin h=>exact absurd h (c.SA H hgo hF hl τ d)
  |step hex hs ht=>exact⟨hex,_,_,_,_,hs,ht⟩
 have hex:=(inv default 0).1
 have hnot:¬∀τ d f' l' V' es,stepG P true (cz c.fr (c.l++[trap P]) .running) (on c.V τ d)= .go (cz f' (l'++[trap P]) .running) V' es→LT P Fin f' l' V':=fun h=>c.not (.step hex (fun τ d=>by
  obtain⟨_,f',l',V',es,hs,_⟩:=inv τ d
  exact⟨f',l',V',es,hs⟩) h)
 have:∃τ d f' l' V' es,stepG P true (cz c.fr (c.l++[trap P]) .running) (on c.V τ d)= .go (cz f' (l'++[trap P]) .running) V' es∧¬LT P Fin f' l' V':=by apply Classical.byContradiction;intro h;exact hnot fun τ d f' l' V' es hs=>Classical.byContradiction fun hn=>h ⟨τ,d,f',l',V',es,hs,hn⟩
 obtain⟨τ,d,f',l',V',es,hs,hnl⟩:=this;obtain⟨_,h2,h3,h4,h5,h6⟩:=qa (zV:=τ) (d':=d) H hgo c.ok c.oks c.np hex hs (fun i _=>rfl);refine⟨⟨f',l',V',h2,h3,h4,fun zV d'=>?_,hnl⟩,τ,d,es,hex,hs⟩;let T:Nat→Question→Nat:=fun p=>if p<V'.drawn then τ p else zV (d'+(p-V'.drawn));obtain⟨h7,_⟩:=qa (zV:=T) (d':=d) H hgo c.ok c.oks c.np hex hs (fun i hi=>by simp only[T,if_pos hi]);obtain⟨_,f2,l2,V2,es2,hs2,ht2⟩:=inv T d;rw[h7]at hs2;simp only[GStep.go.injEq]at hs2;obtain⟨e1,e2,_⟩:=hs2;obtain⟨rfl,e3,_⟩:=kE e1;obtain rfl:=List.append_cancel_right e3;subst e2
 have:=P_ H hgo hF ht2 h2 h3 (by exact h4) zV d' (fun i=>by
  show T (d+(V'.drawn-d)+i)=_;have:¬(d+(V'.drawn-d)+i<V'.drawn):=by omega
  simp only[T,if_neg this]
  congr 1
  omega)
 simpa using this
theorem OX (H:OkS P id fs) (hgo:P.follows .goNilFatal=true→fs fM=false) (hF:∀fr V τ d,Fin fr V→Fin fr (on V τ d)) {fr:Frame} {l:List Frame} {V:World} (hfr:dZ fs fr) (hl:∀x∈l,dZ fs x) (hn:NP V) (ht:∀τ d,Tm P Fin fr l (on V τ d)):LT P Fin fr l V:=by
 apply Classical.byContradiction;intro hnot;let c0:BV P fs Fin:=⟨fr,l,V,hfr,hl,hn,ht,hnot⟩;let nx:BV P fs Fin→BV P fs Fin:=fun c=>Classical.choose (c.next H hgo hF);let seq:Nat→BV P fs Fin:=fun i=>Nat.rec c0 (fun _ c=>nx c) i;have hnx:∀i,∃(τ:Nat→Question→Nat) (d:Nat) (es:Array Event),((seq i).fr.mode= .run∨(seq i).fr.defers≠[]∨(seq i).l≠[])∧
  stepG P true (cz (seq i).fr ((seq i).l++[trap P]) .running) (on (seq i).V τ d)= .go (cz (seq (i+1)).fr ((seq (i+1)).l++[trap P]) .running) (seq (i+1)).V es:=fun i=>Classical.choose_spec ((seq i).next H hgo hF)
 let tp:Nat→Nat→Question→Nat:=fun i=>Classical.choose (hnx i);let dd:Nat→Nat:=fun i=>Classical.choose (Classical.choose_spec (hnx i));have hst:∀i,∃es,((seq i).fr.mode= .run∨(seq i).fr.defers≠[]∨(seq i).l≠[])∧
  stepG P true (cz (seq i).fr ((seq i).l++[trap P]) .running) (on (seq i).V (tp i) (dd i))= .go (cz (seq (i+1)).fr ((seq (i+1)).l++[trap P]) .running) (seq (i+1)).V es:=fun i=>Classical.choose_spec (Classical.choose_spec (hnx i))
 let pos:Nat→Nat:=fun i=>Nat.rec 0 (fun i p=>p+((seq (i+1)).V.drawn-dd i)) i;have uN:∀i,pos (i+1)=pos i+((seq (i+1)).V.drawn-dd i):=fun i=>rfl;have E5:∀a b,a≤b→pos a≤pos b:=by
  intro a b h;induction b with
  |zero=>have:a=0:=by omega
         subst this;exact Nat.le_refl _
  |succ b ih=>
   rcases Nat.lt_or_ge b a with h1|h1
   ·have:a=b+1:=by omega
    subst this;exact Nat.le_refl _
   ·have:=ih h1;rw[uN];omega
 let T:Nat→Question→Nat:=fun p=>open Classical in if h:∃i,pos i≤p∧p<pos (i+1)then tp (Classical.choose h) (dd (Classical.choose h)+(p-pos (Classical.choose h)))else fun _=>0;have hT:∀i j,j<(seq (i+1)).V.drawn-dd i→T (pos i+j)=tp i (dd i+j):=by
  intro i j hj;have h:∃k,pos k≤pos i+j∧pos i+j<pos (k+1):=⟨i,by omega,by rw[uN];omega⟩;have hk:=Classical.choose_spec h;have e:Classical.choose h=i:=by
   rcases Nat.lt_trichotomy (Classical.choose h) i with h1|h1|h1
   ·have:=E5 (Classical.choose h+1) i h1;omega
   ·exact h1
   ·have:=E5 (i+1) (Classical.choose h) h1;rw[uN]at this;omega
  simp only[T,dif_pos h];rw[e]
  congr 1
  omega
 have no:∀{f:Frame} {l:List Frame} {W:World},Tm P Fin f l W→∀i,f=(seq i).fr→l=(seq i).l→W=on (seq i).V T (pos i)→False:=by
  intro f l W h;induction h with
  |fin h=>intro i e1 e2 e3;subst e1 e3;exact(seq i).SA H hgo hF e2.symm _ _ h
  | @step fr f' l l' V V' es hex hs _ ih=>intro i e1 e2 e3;subst e1 e2 e3;obtain⟨es2,acg,hs2⟩:=hst i;obtain⟨h7,_,_,_,h5,_⟩:=qa (zV:=T) (d':=pos i) H hgo (seq i).ok (seq i).oks (seq i).np acg hs2 (fun j hj=>(hT i j (by omega)).symm);rw[h7]at hs;simp only[GStep.go.injEq]at hs;obtain⟨e1,e2,_⟩:=hs;obtain⟨e4,e3,_⟩:=kE e1;have e5:=List.append_cancel_right e3;exact ih (i+1) e4.symm e5.symm (by rw[←e2,uN])
 exact no (ht T 0) 0 rfl rfl rfl
end
end Go.Ren
namespace Go.Ren
set_option linter.unusedSimpArgs false
set_option linter.unusedVariables false
set_option linter.unusedSectionVars false
variable {P:Program} {fs:FuncId→Bool} {Fin:Frame→World→Prop} {K:World→World→Array Event→Prop}
inductive LK (P:Program) (Fin:Frame→World→Prop) (K:World→World→Array Event→Prop):Frame→List Frame→World→Prop
 |fin {fr:Frame} {V:World}:(∀τ d,Fin fr (on V τ d))→LK P Fin K fr [] V
 |step {fr:Frame} {l:List Frame} {V:World}:(fr.mode= .run∨fr.defers≠[]∨l≠[])→
   (∀τ d,∃f' l' V' es,stepG P true (cz fr (l++[trap P]) .running) (on V τ d)= .go (cz f' (l'++[trap P]) .running) V' es∧K (on V τ d) V' es)→
   (∀τ d f' l' V' es,stepG P true (cz fr (l++[trap P]) .running) (on V τ d)= .go (cz f' (l'++[trap P]) .running) V' es→LK P Fin K f' l' V')→LK P Fin K fr l V
structure Ext (π:Nat→Nat) (V w:World) (ρ:Nat→Nat):Prop where
 inj:∀a b,ρ a=ρ b→a=b
 old:∀b,b<V.heap.size→ρ b=π b
 new:∀b,V.heap.size≤b→w.heap.size≤ρ b
structure HR (L:Nat) (π:Nat→Nat) (V w:World):Prop where
 inj:∀a b,a<V.heap.size→b<V.heap.size→π a=π b→a=b
 range:∀b,b<V.heap.size→π b<w.heap.size
 low:∀b,b<L→π b=b
 high:∀b,L≤b→b<V.heap.size→L≤π b
 size:L≤V.heap.size
 heap:∀ρ,Ext π V w ρ→∀b,b<V.heap.size→w.heap[π b]? =(V.heap[b]?).map (lM ρ)
 np:NP V
 os:w.os=V.os
def canon (π:Nat→Nat) (V w:World):Nat→Nat:=fun b=>if b<V.heap.size then π b else w.heap.size+(b-V.heap.size)
theorem iY {L:Nat} {π:Nat→Nat} {V w:World} (h:HR L π V w):Ext π V w (canon π V w):=by
 refine⟨fun a b e=>?_,fun b hb=>by simp[canon,hb],fun b hb=>?_⟩
 ·unfold canon at e;split at e<;>split at e
  ·rename_i h1 h2;exact h.inj a b h1 h2 e
  ·rename_i h1 h2;have:=h.range a h1;omega
  ·rename_i h1 h2;have:=h.range b h2;omega
  ·omega
 ·unfold canon;rw[if_neg (by omega)];omega
theorem Ext.wr {L:Nat} {π:Nat→Nat} {V w:World} {ρ:Nat→Nat} (h:HR L π V w) (e:Ext π V w ρ) (τ:Nat→Question→Nat) (d:Nat):WR ρ (on V τ d) w:=by
 refine⟨fun b=>?_,h.np,h.os⟩;show w.heap[ρ b]? =(V.heap[b]?).map (lM ρ);rcases Nat.lt_or_ge b V.heap.size with hb|hb
 ·rw[e.old b hb];exact h.heap ρ e b hb
 ·rw[show V.heap[b]? =none from Array.getElem?_eq_none hb,Array.getElem?_eq_none (e.new b hb)];rfl
structure OkA (P:Program) (fs:FuncId→Bool) (L:Nat):Prop where
 seven:7≤L
 Q5:P.globals.size≤L
 all:∀ρ,(∀a b,ρ a=ρ b→a=b)→(∀b,b<L→ρ b=b)→OkS P ρ fs
 go:P.follows .goNilFatal=true→fs fM=false
theorem Ext.low {L:Nat} {π:Nat→Nat} {V w:World} {ρ:Nat→Nat} (h:HR L π V w) (e:Ext π V w ρ) (b:Nat) (hb:b<L):ρ b=b:=by rw[e.old b (by have:=h.size;omega),h.low b hb]
structure um (L:Nat) (S:Nat→Prop) (w w₁:World):Prop where
 keep:∀b,b<L∨S b→w₁.heap[b]? =w.heap[b]?
 size:w.heap.size≤w₁.heap.size
 os:w₁.os=w.os
theorem um.refl {L:Nat} {S:Nat→Prop} (w:World):um L S w w:=⟨fun _ _=>rfl,Nat.le_refl _,rfl⟩
theorem um.trans {L:Nat} {S:Nat→Prop} {a b c:World} (h:um L S a b) (h':um L S b c):um L S a c:=
 ⟨fun x hx=>(h'.keep x hx).trans (h.keep x hx),Nat.le_trans h.size h'.size,h'.os.trans h.os⟩
def own (L:Nat) (π:Nat→Nat) (V:World):Nat→Prop:=fun b=>∃i,L≤i∧i<V.heap.size∧π i=b
theorem HR.rely {L:Nat} {π:Nat→Nat} {V w w₁:World} (h:HR L π V w) (r:um L (own L π V) w w₁):HR L π V w₁:=by
 refine⟨h.inj,fun b hb=>Nat.lt_of_lt_of_le (h.range b hb) r.size,h.low,h.high,h.size,fun ρ e b hb=>?_,h.np,r.os.trans h.os⟩;have e':Ext π V w ρ:=⟨e.inj,e.old,fun b hb=>Nat.le_trans r.size (e.new b hb)⟩;rw[r.keep (π b) ?_,h.heap ρ e' b hb];rcases Nat.lt_or_ge b L with h1|h1
 ·exact .inl (by rw[h.low b h1];exact h1)
 ·exact .inr ⟨b,h1,hb,rfl⟩
structure Wl (L:Nat) (S:Nat→Prop) (w w':World) (es:Array Event):Prop where
 frame:∀(b:Nat),b<w.heap.size→¬S b→w'.heap[b]? =w.heap[b]?
 size:w.heap.size≤w'.heap.size
 tape:w'.tape=w.tape
 os:w'.os=w.os
 output:w'.output=w.output
 evs:∀e∈es,(∃a,e.loc= .cell a∧(S a.block∨(w.heap.size≤a.block∧a.block<w'.heap.size)∨(a.block<L∧e.write=false)))∨
  (∃r,e.loc= .obj r∧(S r∨(w.heap.size≤r∧r<w'.heap.size)∨(r<L∧e.write=false)))∨(∃m,e.loc= .mark m∧xn m=true)
structure Calm (L:Nat) (V V':World) (es:Array Event):Prop where
 low:∀(b:Nat),b<L→V'.heap[b]? =V.heap[b]?
 evs:∀e∈es,e.loc≠ .output∧(∀a,e.loc= .cell a→a.block<L→e.write=false)∧(∀r,e.loc= .obj r→r<L→e.write=false)
theorem Bj {L:Nat} (A:OkA P fs L) {main:Bool} {π:Nat→Nat} {V V' w:World} {fr f':Frame} {l l' cs:List Frame} {es:Array Event} {g:Goroutine}
 (hr:HR L π V w) (hg:∀ρ,Ext π V w ρ→g=cz (dL ρ fr) (l.map (dL ρ)++cs) .running) (hfr:dZ fs fr) (hl:∀x∈l,dZ fs x) (hex:fr.mode= .run∨fr.defers≠[]∨l≠[])
 (hs:stepG P true (cz fr (l++[trap P]) .running) (on V w.tape w.drawn)= .go (cz f' (l'++[trap P]) .running) V' es) (hK:Calm L (on V w.tape w.drawn) V' es):
 ∃g' w' es',stepG P main g w= .go g' w' es'∧Wl L (own L π V) w w' es'∧HR L (canon π V w) V' w'∧(∀ρ,Ext (canon π V w) V' w' ρ→g'=cz (dL ρ f') (l'.map (dL ρ)++cs) .running)∧dZ fs f'∧(∀x∈l',dZ fs x)∧
  (∀b,own L (canon π V w) V' b↔own L π V b∨(w.heap.size≤b∧b<w'.heap.size))∧V.heap.size≤V'.heap.size:=by
 have key:∀ρ,Ext π V w ρ→(∀b,V.heap.size≤b→b<V'.heap.size→ρ b=canon π V w b)→∃w',stepG P main g w= .go (cz (dL ρ f') (l'.map (dL ρ)++cs) .running) w' (es.map (lK ρ))∧dZ fs f'∧(∀x∈l',dZ fs x)∧Out ρ (on V w.tape w.drawn) w V' w'∧
  ∀e∈es,mH V'.heap.size e.loc∨(e.loc= .output∧∃ch,f'.mode= .panicking ch):=by
  intro ρ e hnew;have H:=A.all ρ e.inj (e.low hr);have ha:Align ρ (on V w.tape w.drawn) w (mP (stepG P true (cz fr (l++[trap P]) .running) (on V w.tape w.drawn))):=by rw[hs];refine⟨fun i hi=>?_,fun i _=>rfl⟩;have hi':V.heap.size+i<V'.heap.size:=hi;show ρ (V.heap.size+i)=w.heap.size+i;rw[hnew (V.heap.size+i) (by omega) hi'];unfold canon;rw[if_neg (by omega)];congr 1;omega
  have:=De (cs:=[trap P]) (cs':=cs) (main:=true) (main':=main) (st:=.running) (st':=.running) H A.go hfr hl (e.wr hr _ _) hex ha;rw[hs, ←hg ρ e]at this;obtain⟨f,l1,st,W1,_,e1,e2,h1,h2,ho,he⟩:=this.inv rfl;obtain⟨rfl,e3,rfl⟩:=kE e1;obtain rfl:=List.append_cancel_right e3;exact⟨W1,e2,h1,h2,ho,he⟩
 have ec:=iY hr;obtain⟨w',h1,h2,h3,h4,h5⟩:=key _ ec (fun _ _ _=>rfl);have hvs:V.heap.size≤V'.heap.size:=h4.BU;have hws:w'.heap.size+V.heap.size=w.heap.size+V'.heap.size:=h4.size;have hown:∀b,own L (canon π V w) V' b↔own L π V b∨(w.heap.size≤b∧b<w'.heap.size):=by
  intro b;constructor
  ·rintro⟨i,hi1,hi2,rfl⟩;rcases Nat.lt_or_ge i V.heap.size with hlt|hge
   ·exact .inl ⟨i,hi1,hlt,(ec.old i hlt).symm⟩
   ·right;unfold canon;rw[if_neg (by omega)];omega
  ·rintro(⟨i,hi1,hi2,rfl⟩|⟨hb1,hb2⟩)
   ·exact⟨i,hi1,by omega,ec.old i hi2⟩
   ·refine⟨V.heap.size+(b-w.heap.size),by have:=hr.size;omega,by omega,?_⟩;unfold canon;rw[if_neg (by omega)];omega
 have place:∀b,b<V'.heap.size→b<L∨own L (canon π V w) V' (canon π V w b):=fun b hb=>by
  rcases Nat.lt_or_ge b L with h|h
  ·exact .inl h
  ·exact .inr ⟨b,h,hb,rfl⟩
 have Lm:∀b,b<L→canon π V w b=b:=fun b hb=>ec.low hr b hb;refine⟨_,w',_,h1,?_,?_,?_,h2,h3,hown,hvs⟩
 ·
  refine⟨fun b hb hn=>?_,by omega,h4.tape,h4.os,h4.output,fun e he=>?_⟩
  ·rcases Nat.lt_or_ge b L with hbL|hbL
   ·have e1:=h4.wr.eq b;rw[Lm b hbL]at e1;have e2:=(ec.wr hr w.tape w.drawn).eq b;rw[Lm b hbL]at e2;rw[e1,e2,hK.low b hbL]
   ·refine h4.frame b hb fun x hx=>?_;intro hxb;refine hn ?_;have hx':x<V.heap.size:=hx;rcases Nat.lt_or_ge x L with h|h
    ·rw[Lm x h]at hxb;omega
    ·exact⟨x,h,hx',by rw[←ec.old x hx'];exact hxb⟩
  ·obtain⟨e0,he0,rfl⟩:=Array.mem_map.1 he;obtain⟨k1,k2,k3⟩:=hK.evs e0 he0;have h6:=(h5 e0 he0).resolve_right fun x=>k1 x.1;obtain⟨loc,wr,sy⟩:=e0;cases loc with
   |cell a=>
    left;refine⟨bW (canon π V w) a,rfl,?_⟩;rcases place a.block h6 with h|h
    ·right;right;refine⟨?_,k2 a rfl h⟩;show canon π V w a.block<L;rw[Lm _ h];exact h
    ·rcases(hown _).1 h with h|h
     ·exact .inl h
     ·exact .inr (.inl h)
   |obj r=>
    right;left;refine⟨canon π V w r,rfl,?_⟩;rcases place r h6 with h|h
    ·right;right;refine⟨?_,k3 r rfl h⟩;rw[Lm _ h];exact h
    ·rcases(hown _).1 h with h|h
     ·exact .inl h
     ·exact .inr (.inl h)
   |mark m=>exact .inr (.inr ⟨_,rfl,by have:xn m=true:=h6;cases m<;>first|rfl|cases this⟩)
   |output=>exact h6.elim
   |goroutines=>exact h6.elim
 ·
  refine⟨fun a b ha hb e=>ec.inj a b e,fun b hb=>?_,Lm,fun b hb1 hb2=>?_,by have:=hr.size;omega,fun ρ e b hb=>?_,h4.wr.kg,h4.wr.os⟩
  ·have e1:=h4.wr.eq b;have:V'.heap[b]? =some V'.heap[b]:=Array.getElem?_eq_getElem hb;rw[this]at e1;exact(Array.getElem?_eq_some_iff.1 e1).1
  ·rcases Nat.lt_or_ge b V.heap.size with h|h
   ·rw[ec.old b h];exact hr.high b hb1 h
   ·unfold canon;rw[if_neg (by omega)];have:=hr.size;have:=hr.range;rcases Nat.eq_zero_or_pos L with h0|h0
    ·omega
    ·have h1:=hr.range (L-1) (by omega);rw[hr.low (L-1) (by omega)]at h1;omega
  ·have e':Ext π V w ρ:=⟨e.inj,fun x hx=>by rw[e.old x (by omega)];exact ec.old x hx,fun x hx=>by
    rcases Nat.lt_or_ge x V'.heap.size with h|h
    ·rw[e.old x h];exact ec.new x hx
    ·have:=e.new x h;omega⟩
   obtain⟨w2,k1,_,_,k4,_⟩:=key ρ e' (fun x hx1 hx2=>e.old x hx2);rw[h1]at k1;simp only[GStep.go.injEq]at k1;obtain⟨_,rfl,_⟩:=k1;rw[←e.old b hb];exact k4.wr.eq b
 ·intro ρ e
  have e':Ext π V w ρ:=⟨e.inj,fun x hx=>by rw[e.old x (by omega)];exact ec.old x hx,fun x hx=>by
   rcases Nat.lt_or_ge x V'.heap.size with h|h
   ·rw[e.old x h];exact ec.new x hx
   ·have:=e.new x h;omega⟩
  obtain⟨w2,k1,_⟩:=key ρ e' (fun x hx1 hx2=>e.old x hx2);rw[h1]at k1;simp only[GStep.go.injEq]at k1;exact k1.1
end Go.Ren
namespace Go.Ren
set_option linter.unusedSimpArgs false
set_option linter.unusedVariables false
set_option linter.unusedSectionVars false
variable {P:Program} {fs:FuncId→Bool}
inductive ow (P:Program) (main:Bool) (L:Nat) (Stop:(Nat→Prop)→Goroutine→World→Prop):(Nat→Prop)→Goroutine→World→Prop
 |stop {S:Nat→Prop} {g:Goroutine} {w:World}:(∀w₁,um L S w w₁→Stop S g w₁)→ow P main L Stop S g w
 |step {S:Nat→Prop} {g:Goroutine} {w:World}:g.status= .running→(∀w₁,um L S w w₁→∃g' w' es,stepG P main g w₁= .go g' w' es∧Wl L S w₁ w' es)→
   (∀w₁ g' w' es,um L S w w₁→stepG P main g w₁= .go g' w' es→ow P main L Stop (fun b=>S b∨(w₁.heap.size≤b∧b<w'.heap.size)) g' w')→ow P main L Stop S g w
section
variable {main:Bool} {L:Nat} {Stop Stop':(Nat→Prop)→Goroutine→World→Prop} {S:Nat→Prop} {g:Goroutine} {w w₁:World}
theorem ow.rely (h:ow P main L Stop S g w) (r:um L S w w₁):ow P main L Stop S g w₁:=by
 cases h with
 |stop h=>exact .stop fun w₂ r₂=>h w₂ (r.trans r₂)
 |step hs h1 h2=>exact .step hs (fun w₂ r₂=>h1 w₂ (r.trans r₂)) fun w₂ g' w' es r₂=>h2 w₂ g' w' es (r.trans r₂)
theorem ow.bind (h:ow P main L Stop S g w) (hs:∀S g w,Stop S g w→ow P main L Stop' S g w):ow P main L Stop' S g w:=by
 induction h with
 |stop h=>exact hs _ _ _ (h _ (.refl _))
 |step hr h1 _ ih=>exact .step hr h1 ih
end
def Kw (P:Program) (Post:Value→World→Prop) (fr:Frame) (V:World):Prop:=
 fr.mode= .returning∧fr.defers=[]∧fr.kind= .normal∧∃fn v,P.funcs[fr.fn]? =some fn∧results fn fr.tmps= .pure v∧Post v V
def Wh (L n0:Nat) (π0:Nat→Nat) (Post:Value→World→Prop) (c:Frame) (cs:List Frame) (S:Nat→Prop) (g:Goroutine) (w:World):Prop:=
 ∃π V v,S=own L π V∧HR L π V w∧(n0≤V.heap.size∧∀b,b<n0→π b=π0 b)∧Post v V∧∀ρ,Ext π V w ρ→g=cz (c.finish (mv ρ v)) cs .running
theorem Out.still {ρ:Nat→Nat} {V w w':World} (hi:∀a b,ρ a=ρ b→a=b) (hw:WR ρ V w) (o:Out ρ V w V w'):w'=w:=by
 have a1:=o.tape;have a2:=o.os;have a3:=o.output;have a4:=o.drawn;have a5:=o.size;have hh:w'.heap=w.heap:=by
  apply Array.ext_getElem?;intro b;rcases Nat.lt_or_ge b w.heap.size with hb|hb
  ·by_cases h:∃x,x<V.heap.size∧ρ x=b
   ·obtain⟨x,_,rfl⟩:=h;rw[o.wr.eq,hw.eq]
   ·exact o.frame b hb fun x hx e=>h ⟨x,hx,e⟩
  ·rw[Array.getElem?_eq_none hb,Array.getElem?_eq_none (by omega)]
 obtain⟨wh,wt,wd,wo,wu⟩:=w';obtain⟨wh2,wt2,wd2,wo2,wu2⟩:=w;simp only at*;have:wd=wd2:=by omega
 subst hh a1 a2 a3 this;rfl
theorem yQ {L:Nat} (A:OkA P fs L) {main:Bool} {Post:Value→World→Prop} {π:Nat→Nat} {V w:World} {fr c:Frame} {cs:List Frame} {ρ:Nat→Nat} (hr:HR L π V w) (e:Ext π V w ρ)
 (hF:Kw P Post fr (on V w.tape w.drawn)):∃v,Post v (on V w.tape w.drawn)∧stepG P main (cz (dL ρ fr) (c::cs) .running) w= .go (cz (c.finish (mv ρ v)) cs .running) w #[]∧
   ∃fn,P.funcs[fr.fn]? =some fn∧results fn fr.tmps= .pure v:=by
 obtain⟨h1,h2,h3,fn,v,h4,h5,h6⟩:=hF;refine⟨v,h6,?_,fn,h4,h5⟩;have hw:=e.wr hr w.tape w.drawn;have run:=(zJ (P:=P) (ρ:=ρ) fn fr.tmps).runT e.inj (on V w.tape w.drawn) w #[] #[] hw;rw[show(results fn fr.tmps).runT P (on V w.tape w.drawn) #[]=(.ok v (on V w.tape w.drawn),#[]) by rw[h5];rfl]at run;obtain⟨⟨d,e1,e2,_⟩,res,o⟩:=run (fun i hi=>absurd hi (by simp[world])) (fun i hi=>absurd hi (by simp[world])) (fun x=>x);rcases hr':(results fn (fr.tmps.map (mv ρ))).runT P w #[]with⟨r',es'⟩;rw[hr']at e2 res o;simp only[Array.empty_append]at e1 e2;have:es'= #[]:=by rw[e2, ←e1];simp
 subst this;cases r' with
 |halt h w'=>exact res.elim
 |ok v' w'=>have hv:v'=mv ρ v:=res;have hw':w'=w:=Out.still e.inj hw o;subst hv hw';obtain⟨fn',tmps,todo,defers,mode,kind,round⟩:=fr;simp only at h1 h2 h3 h4 hr';subst h1 h2 h3;simp only[stepG,cz,dL,gZ,List.map_nil,unwind,h4];rw[hr'];rfl
theorem lift {L n0:Nat} {π0:Nat→Nat} (A:OkA P fs L) {main:Bool} {Post:Value→World→Prop} (hP:∀v V τ d,Post v V→Post v (on V τ d)) {c:Frame} {cs:List Frame} {fr:Frame} {l:List Frame} {V:World} (h:LK P (Kw P Post) (Calm L) fr l V):
 dZ fs fr→(∀x∈l,dZ fs x)→∀π w g,HR L π V w→(n0≤V.heap.size∧∀b,b<n0→π b=π0 b)→(∀ρ,Ext π V w ρ→g=cz (dL ρ fr) (l.map (dL ρ)++c::cs) .running)→ow P main L (Wh L n0 π0 Post c cs) (own L π V) g w:=by
 induction h with
 | @fin fr V hF=>
   intro hfr _ π w g hr hag hg;have e0:=iY hr;have UJ:g.status= .running:=by rw[hg _ e0];rfl
   have hx:∀w₁,um L (own L π V) w w₁→∀ρ,Ext π V w₁ ρ→g=cz (dL ρ fr) (c::cs) .running:=fun w₁ r ρ e=>by have:=hg ρ ⟨e.inj,e.old,fun b hb=>Nat.le_trans r.size (e.new b hb)⟩;simpa using this
   refine .step UJ (fun w₁ r=>?_) fun w₁ g' w' es r hs=>?_
   ·have hr1:=hr.rely r;have e1:=iY hr1;obtain⟨v,_,hst,_⟩:=yQ (c:=c) (cs:=cs) (main:=main) A hr1 e1 (hF w₁.tape w₁.drawn);rw[←hx w₁ r _ e1]at hst;exact⟨_,_,_,hst,⟨fun _ _ _=>rfl,Nat.le_refl _,rfl,rfl,rfl,fun e he=>by simp at he⟩⟩
   ·have hr1:=hr.rely r;have e1:=iY hr1;obtain⟨v,hv,hst,fn,hfn,hres⟩:=yQ (c:=c) (cs:=cs) (main:=main) A hr1 e1 (hF w₁.tape w₁.drawn);rw[←hx w₁ r _ e1,hs]at hst;simp only[GStep.go.injEq]at hst;obtain⟨rfl,rfl,_⟩:=hst;have hS:(fun b=>own L π V b∨(w'.heap.size≤b∧b<w'.heap.size))=own L π V:=by
     funext b;apply propext;constructor
     ·rintro(h|h)
      ·exact h
      ·omega
     ·exact .inl
    rw[hS];refine .stop fun w₂ r₂=>?_;have hr2:=hr1.rely r₂;refine⟨π,V,v,rfl,hr2,hag,?_,fun ρ e=>?_⟩
    ·have:=hP v _ V.tape V.drawn hv;exact this
    ·have e':Ext π V w' ρ:=⟨e.inj,e.old,fun b hb=>Nat.le_trans r₂.size (e.new b hb)⟩;obtain⟨v2,_,UR,fn2,Oz,hres2⟩:=yQ (c:=c) (cs:=cs) (main:=main) A hr1 e' (hF w'.tape w'.drawn);rw[hfn]at Oz;cases Oz;rw[hres]at hres2;simp only[Sem.pure.injEq]at hres2;obtain rfl:=hres2;rw[←hx w' r ρ e',hs]at UR;simp only[GStep.go.injEq]at UR;exact UR.1
 | @step fr l V hex hst hnx ih=>
   intro hfr hl π w g hr hag hg;have e0:=iY hr;have UJ:g.status= .running:=by rw[hg _ e0];rfl
   have hx:∀w₁,um L (own L π V) w w₁→∀ρ,Ext π V w₁ ρ→g=cz (dL ρ fr) (l.map (dL ρ)++c::cs) .running:=fun w₁ r ρ e=>
    hg ρ ⟨e.inj,e.old,fun b hb=>Nat.le_trans r.size (e.new b hb)⟩
   refine .step UJ (fun w₁ r=>?_) fun w₁ g' w' es r hs=>?_
   ·obtain⟨f',l',V',es,hs,hK⟩:=hst w₁.tape w₁.drawn;obtain⟨g',w',es',k1,k2,_⟩:=Bj (main:=main) A (hr.rely r) (hx w₁ r) hfr hl hex hs hK;exact⟨g',w',es',k1,k2⟩
   ·obtain⟨f',l',V',es2,hs2,hK⟩:=hst w₁.tape w₁.drawn;obtain⟨g2,w2,es',k1,k2,k3,k4,k5,k6,k7,k8⟩:=Bj (main:=main) A (hr.rely r) (hx w₁ r) hfr hl hex hs2 hK;rw[hs]at k1;simp only[GStep.go.injEq]at k1;obtain⟨rfl,rfl,rfl⟩:=k1;have hag':n0≤V'.heap.size∧∀b,b<n0→canon π V w₁ b=π0 b:=⟨Nat.le_trans hag.1 k8,fun b hb=>by rw[(iY (hr.rely r)).old b (by have:=hag.1;omega)];exact hag.2 b hb⟩;have:=ih w₁.tape w₁.drawn f' l' V' es2 hs2 k5 k6 _ w' g' k3 hag' k4;have hS:own L (canon π V w₁) V'=(fun b=>own L π V b∨(w₁.heap.size≤b∧b<w'.heap.size)):=by funext b;exact propext (k7 b)
    rw[hS]at this;exact this
end Go.Ren
