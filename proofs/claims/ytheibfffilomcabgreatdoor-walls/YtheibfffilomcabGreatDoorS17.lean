import Derived.Test.YtheibfffilomcabGreatDoorS16U
import Derived.Conc.RingFork
set_option linter.all false
namespace Go.Ren
open Go.Conc Go.ConcN
open Go.ConcR (KK wgBlock WgAt stA smA rd wr Payload Aside2 DC0 Bk g_of_ofEvents)
set_option linter.unusedSimpArgs false
set_option linter.unusedVariables false
set_option linter.unusedSectionVars false
structure Alone (hi:Nat) (u:Trace):Prop where
 g:∀op∈u,op.g=0
 t:∀op∈u,∀x,op.act.touch?=some x→∃b,blk x.loc=some b∧b<hi
 m:∀op∈u,∀m,op.act= .mark m→xn m=true
theorem Alone.nil (hi:Nat):Alone hi #[]:=⟨fun op h=>by simp at h,fun op h=>by simp at h,fun op h=>by simp at h⟩
theorem Alone.app {hi hi':Nat} {u v:Trace} (h:Alone hi u) (h':Alone hi' v) (hh:hi≤hi'):Alone hi' (u++v):=by
 refine⟨fun op ho=>?_,fun op ho x hx=>?_,fun op ho=>?_⟩
 ·exact(Array.mem_append.1 ho).elim (h.g op) (h'.g op)
 ·rcases Array.mem_append.1 ho with ho|ho
  ·obtain⟨b,h1,h2⟩:=h.t op ho x hx;exact⟨b,h1,by omega⟩
  ·exact h'.t op ho x hx
 ·exact(Array.mem_append.1 ho).elim (h.m op) (h'.m op)
theorem NN {Bs S:Nat→Prop} {lo hi:Nat} {fn:FuncId} {pos:String} {es:Array Event} (hh:lo≤hi) (hB:∀b,Bs b∨S b→b<lo) (h:∀e∈es,Wj Bs S lo hi e):Alone hi (MemOp.ofEvents 0 fn pos es):=by
 have key:∀b,(S b∨(lo≤b∧b<hi)∨(Bs b∧True))→b<hi:=by
  rintro b (x|x|x)
  ·have:=hB b (.inr x);omega
  ·exact x.2
  ·have:=hB b (.inl x.1);omega
 refine⟨fun op ho=>?_,fun op ho x hx=>?_,fun op ho m hm=>?_⟩
 ·obtain⟨e,_,rfl⟩:=Go.Conc.mem_ofEvents ho;rfl
 ·obtain⟨e,he,rfl⟩:=Go.Conc.mem_ofEvents ho;obtain⟨loc,wr,sy⟩:=e;rcases h _ he with⟨a,h1,h2⟩|⟨r,h1,h2⟩|⟨m,h1,h2⟩
  ·simp only at h1;subst h1;simp[MemAct.ofEvent,MemAct.touch?]at hx;subst hx;exact⟨a.block,rfl,key _ (h2.imp id (Or.imp id fun y=>⟨y.1,trivial⟩))⟩
  ·simp only at h1;subst h1;have hx':x.loc= .obj r:=by cases wr<;>cases sy<;>simp[MemAct.ofEvent,MemAct.touch?]at hx<;>(subst hx;rfl)
   exact⟨r,by rw[hx'];rfl,key _ (h2.imp id (Or.imp id fun y=>⟨y.1,trivial⟩))⟩
  ·simp only at h1;subst h1;cases m<;>first|(simp[MemAct.ofEvent,MemAct.touch?]at hx;done)|cases h2
 ·obtain⟨e,he,rfl⟩:=Go.Conc.mem_ofEvents ho;obtain⟨loc,wr,sy⟩:=e;rcases h _ he with⟨a,h1,h2⟩|⟨r,h1,h2⟩|⟨m',h1,h2⟩
  ·simp only at h1;subst h1;simp[MemAct.ofEvent]at hm
  ·simp only at h1;subst h1;cases wr<;>cases sy<;>simp[MemAct.ofEvent]at hm
  ·simp only at h1;subst h1;simp only[MemAct.ofEvent,MemAct.mark.injEq]at hm;rw[←hm];exact h2
theorem J3 {P:Program} {Bs:Nat→Prop} {Stop:(Nat→Prop)→Goroutine→World→Prop}:∀{r:Rk} {S:Nat→Prop} {a:Goroutine} {w:World} (t:Trace),GT P true Bs Stop r S a w→(∀b,Bs b∨S b→b<w.heap.size)→
 ∃N a' w' S' u,runNT P N (solo a w) t=(.next (solo a' w'),t++u)∧Stop S' a' w'∧Alone w'.heap.size u∧w.heap.size≤w'.heap.size∧(∀b,b<w.heap.size→¬S b→w'.heap[b]? =w.heap[b]?)∧w'.os=w.os∧w'.output=w.output∧w'.tape=w.tape:=by
 intro r;induction r with
 |none=>intro S a w t h;exact h.elim
 |leaf=>intro S a w t h _;exact⟨0,a,w,S,#[],by simp[runNT],h w (.refl w),.nil _,Nat.le_refl _,fun _ _ _=>rfl,rfl,rfl,rfl⟩
 |node f ih=>
  intro S a w t h hB;obtain⟨g',w',es,hs,y,h'⟩:=h.2 w (.refl w);have hz:=y.size
  obtain⟨N,a2,w2,S2,u,r1,r2,r3,r4,r5,r6,r7,r8⟩:=ih _ (t++MemOp.ofEvents 0 a.frame.fn a.frame.place es) h' (by
   rintro b (x|x|x)
   ·have:=hB b (.inl x);omega
   ·have:=hB b (.inr x);omega
   ·exact x.2)
  refine⟨N+1,a2,w2,S2,MemOp.ofEvents 0 a.frame.fn a.frame.place es++u,?_,r2,(NN hz hB y.evs).app r3 r4,by omega,fun b hb hn=>?_,r6.trans y.os,r7.trans y.output,r8.trans y.tape⟩
  ·rw[runNT,stepT_solo h.1,runT_solo_go hs];simp only;rw[r1,Array.append_assoc]
  ·rw[r5 b (by omega) (fun x=>by rcases x with x|x;exact hn x;omega),y.keep b hb hn]
end Go.Ren
