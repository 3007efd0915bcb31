import Derived.Test.YtheibfffilomcabGreatDoorR39
import Derived.Conc.CrowdRun
import Derived.Conc.Beside
set_option linter.all false
namespace Go.Ren
open Go.Conc
set_option linter.unusedSimpArgs false
set_option linter.unusedVariables false
set_option linter.unusedSectionVars false
variable {P:Program} {main:Bool}
inductive Rk:Type where
 |none
 |leaf
 |node (f:World × Goroutine × World→Rk)
inductive Rk.Lt:Rk→Rk→Prop
 |leaf:Rk.Lt .none .leaf
 |node (f:World × Goroutine × World→Rk) (x:World × Goroutine × World):Rk.Lt (f x) (.node f)
theorem Rk.wf:WellFounded Rk.Lt:=⟨fun r=>by
 have h0:Acc Rk.Lt .none:=⟨_,fun y h=>by cases h⟩;induction r with
 |none=>exact h0
 |leaf=>exact⟨_,fun y h=>by cases h;exact h0⟩
 |node f ih=>exact⟨_,fun y h=>by cases h with|node _ x=>exact ih x⟩⟩
def Xr (n:Nat) (r' r:Nat→Rk):Prop:=∃i,i<n∧Rk.Lt (r' i) (r i)∧∀k,k≠i→r' k=r k
theorem Ph:∀n,WellFounded (Xr n)
 | 0=>⟨fun r=>⟨_,fun y h=>by obtain⟨i,hi,_⟩:=h;omega⟩⟩
 |n+1=>by
  have w:WellFounded (Prod.Lex Rk.Lt (Xr n)):=(Prod.lex ⟨_,Rk.wf⟩ ⟨_,Ph n⟩).wf;refine Subrelation.wf (r:=InvImage (Prod.Lex Rk.Lt (Xr n)) fun r=>(r n,r)) ?_ (InvImage.wf _ w);rintro r' r ⟨i,hi,h1,h2⟩;show Prod.Lex _ _ (r' n,r') (r n,r);by_cases e:i=n
  ·subst e;exact .left _ _ h1
  ·rw[h2 n (fun x=>e x.symm)];exact .right _ ⟨i,by omega,h1,fun k hk=>h2 k hk⟩
def Lt3 (n:Nat):Nat × (Nat→Rk) × Nat→Nat × (Nat→Rk) × Nat→Prop:=Prod.Lex (· < ·) (Prod.Lex (Xr n) (· < ·))
theorem lt3_wf (n:Nat):WellFounded (Lt3 n):=(Prod.lex ⟨_,Nat.lt_wfRel.wf⟩ (Prod.lex ⟨_,Ph n⟩ ⟨_,Nat.lt_wfRel.wf⟩)).wf
theorem Lt3.one {n a a':Nat} {x x':(Nat→Rk) × Nat} (h:a'<a):Lt3 n (a',x') (a,x):=.left _ _ h
theorem Lt3.two {n a a' f f':Nat} {r r':Nat→Rk} (e:a'=a) (h:Xr n r' r):Lt3 n (a',r',f') (a,r,f):=by subst e;exact .right _ (.left _ _ h)
theorem Lt3.three {n a a' f f':Nat} {r r':Nat→Rk} (e:a'=a) (e':r'=r) (h:f'<f):Lt3 n (a',r',f') (a,r,f):=by subst e e';exact .right _ (.right _ h)
theorem OW {n a b f g g':Nat} {r:Nat→Rk} {x:Nat × (Nat→Rk) × Nat} (h:Lt3 n x (a,r,f)) (hab:a<b):Lt3 n x (b,r,g):=by
 obtain⟨x1,x2⟩:=x;rcases Prod.lex_def.1 h with h|⟨h,_⟩
 ·exact .left _ _ (Nat.lt_trans h hab)
 ·simp only at h;subst h;exact .left _ _ hab
structure RY (K:Nat→Prop) (w w₁:World):Prop where
 keep:∀b,K b→w₁.heap[b]? =w.heap[b]?
 size:w.heap.size≤w₁.heap.size
 os:w₁.os=w.os
theorem RY.refl {K:Nat→Prop} (w:World):RY K w w:=⟨fun _ _=>rfl,Nat.le_refl _,rfl⟩
theorem RY.trans {K:Nat→Prop} {a b c:World} (h:RY K a b) (h':RY K b c):RY K a c:=
 ⟨fun x hx=>(h'.keep x hx).trans (h.keep x hx),Nat.le_trans h.size h'.size,h'.os.trans h.os⟩
theorem RY.mono {K K':Nat→Prop} {a b:World} (h:RY K a b) (hk:∀x,K' x→K x):RY K' a b:=⟨fun x hx=>h.keep x (hk x hx),h.size,h.os⟩
def Wj (Bs S:Nat→Prop) (lo hi:Nat) (e:Event):Prop:=
 (∃a,e.loc= .cell a∧(S a.block∨(lo≤a.block∧a.block<hi)∨(Bs a.block∧e.write=false)))∨
   (∃r,e.loc= .obj r∧(S r∨(lo≤r∧r<hi)∨(Bs r∧e.write=false)))∨(∃m,e.loc= .mark m∧xn m=true)
structure GY (Bs S:Nat→Prop) (w w':World) (es:Array Event):Prop where
 keep:∀b,b<w.heap.size→¬S b→w'.heap[b]? =w.heap[b]?
 size:w.heap.size≤w'.heap.size
 tape:w'.tape=w.tape
 os:w'.os=w.os
 output:w'.output=w.output
 evs:∀e∈es,Wj Bs S w.heap.size w'.heap.size e
theorem GY.idle {Bs S:Nat→Prop} (w:World):GY Bs S w w #[]:=⟨fun _ _ _=>rfl,Nat.le_refl _,rfl,rfl,rfl,fun e he=>by simp at he⟩
def grown (S:Nat→Prop) (w w':World):Nat→Prop:=fun b=>S b∨(w.heap.size≤b∧b<w'.heap.size)
theorem gV (S:Nat→Prop) (w:World):grown S w w=S:=by
 funext b;apply propext;constructor
 ·rintro(h|h)
  ·exact h
  ·omega
 ·exact .inl
def GT (P:Program) (main:Bool) (Bs:Nat→Prop) (Stop:(Nat→Prop)→Goroutine→World→Prop):Rk→(Nat→Prop)→Goroutine→World→Prop
 | .none,_,_,_=>False
 | .leaf,S,g,w=>∀w₁,RY (fun b=>Bs b∨S b) w w₁→Stop S g w₁
 | .node f,S,g,w=>g.status= .running∧∀w₁,RY (fun b=>Bs b∨S b) w w₁→∃g' w' es,stepG P main g w₁= .go g' w' es∧GY Bs S w₁ w' es∧GT P main Bs Stop (f (w₁,g',w')) (grown S w₁ w') g' w'
def GE (P:Program) (main:Bool) (Bs:Nat→Prop) (Stop:(Nat→Prop)→Goroutine→World→Prop) (S:Nat→Prop) (g:Goroutine) (w:World):Prop:=∃r,GT P main Bs Stop r S g w
section
variable {Bs S:Nat→Prop} {Stop Stop':(Nat→Prop)→Goroutine→World→Prop} {g:Goroutine} {w w₁:World} {r:Rk}
theorem GT.rely (h:GT P main Bs Stop r S g w) (q:RY (fun b=>Bs b∨S b) w w₁):GT P main Bs Stop r S g w₁:=by
 cases r with
 |none=>exact h
 |leaf=>exact fun w₂ q₂=>h w₂ (q.trans q₂)
 |node f=>exact⟨h.1,fun w₂ q₂=>h.2 w₂ (q.trans q₂)⟩
theorem GE.stop (h:∀w₁,RY (fun b=>Bs b∨S b) w w₁→Stop S g w₁):GE P main Bs Stop S g w:=⟨.leaf,h⟩
theorem GE.rely (h:GE P main Bs Stop S g w) (q:RY (fun b=>Bs b∨S b) w w₁):GE P main Bs Stop S g w₁:=let⟨r,h⟩:=h;⟨r,h.rely q⟩
theorem GE.step (hr:g.status= .running) (h:∀w₁,RY (fun b=>Bs b∨S b) w w₁→∃g' w' es,stepG P main g w₁= .go g' w' es∧GY Bs S w₁ w' es∧GE P main Bs Stop (grown S w₁ w') g' w'):GE P main Bs Stop S g w:=by
 have:∀x:World × Goroutine × World,∃r,(∃es,stepG P main g x.1= .go x.2.1 x.2.2 es∧RY (fun b=>Bs b∨S b) w x.1)→GT P main Bs Stop r (grown S x.1 x.2.2) x.2.1 x.2.2:=by
  intro x;by_cases hx:∃es,stepG P main g x.1= .go x.2.1 x.2.2 es∧RY (fun b=>Bs b∨S b) w x.1
  ·obtain⟨es,h1,h2⟩:=hx;obtain⟨g',w',es',h3,_,r,h4⟩:=h x.1 h2;rw[h1]at h3;simp only[GStep.go.injEq]at h3;obtain⟨e1,e2,_⟩:=h3;exact⟨r,fun _=>by rw[e1,e2];exact h4⟩
  ·exact⟨.none,fun y=>absurd y hx⟩
 obtain⟨f,hf⟩:=Classical.axiomOfChoice this;refine⟨.node f,hr,fun w₁ q=>?_⟩;obtain⟨g',w',es,h1,h2,_⟩:=h w₁ q;exact⟨g',w',es,h1,h2,hf (w₁,g',w') ⟨es,h1,q⟩⟩
theorem GT.bind (hs:∀S g w,Stop S g w→GE P main Bs Stop' S g w):∀{r:Rk} {S:Nat→Prop} {g:Goroutine} {w:World},GT P main Bs Stop r S g w→GE P main Bs Stop' S g w:=by
 intro r;induction r with
 |none=>intro S g w h;exact h.elim
 |leaf=>intro S g w h;exact hs _ _ _ (h w (.refl w))
 |node f ih=>intro S g w h;refine GE.step h.1 fun w₁ q=>?_;obtain⟨g',w',es,h1,h2,h3⟩:=h.2 w₁ q;exact⟨g',w',es,h1,h2,ih _ h3⟩
theorem GE.bind (h:GE P main Bs Stop S g w) (hs:∀S g w,Stop S g w→GE P main Bs Stop' S g w):GE P main Bs Stop' S g w:=let⟨_,h⟩:=h;h.bind hs
theorem GT.running (h:GT P main Bs Stop r S g w) (hs:∀S g w,Stop S g w→g.status= .running):g.status= .running:=by
 cases r with
 |none=>exact h.elim
 |leaf=>exact hs _ _ _ (h w (.refl w))
 |node f=>exact h.1
end
end Go.Ren
namespace Go.Ren
open Go.Conc Go.ConcN
open Go.ConcR (KK wgBlock WgAt stA smA rd wr mk Payload Aside2 DC0 Bk g_of_ofEvents bk_of_mute ofEvent_loc_mark ofEvent_cell deafBehind_cons deafBehind_one ofEvent_mk again_blocked)
set_option linter.unusedSimpArgs false
set_option linter.unusedVariables false
set_option linter.unusedSectionVars false
def blk:Loc→Option Nat
 | .cell a=>some a.block
 | .obj r=>some r
 |_=>none
def Jq (Wg C B0:Nat) (b:Nat):Prop:=b<B0∧b≠Wg∧b≠C
def yA (C k:Nat) (l:Loc):Prop:=1≤k∧l= .cell ⟨C,k-1,none⟩
def NJ (_:Nat) (_:Loc):Prop:=False
def Eb (C:Nat) (S:Nat→Nat→Prop) (k:Nat) (l:Loc):Prop:=1≤k∧(l= .cell ⟨C,k-1,none⟩∨∃b,blk l=some b∧S k b)
def RdT (Wg C B0:Nat) (_:Nat) (l:Loc):Prop:=∃b,blk l=some b∧Jq Wg C B0 b
structure OkOp (Wg C B0 k hi:Nat) (Sk:Nat→Prop) (op:MemOp):Prop where
 g:op.g=k
 t:∀x,op.act.touch?=some x→(∀b,blk x.loc=some b→b<hi)∧((ShN Wg x.loc∧x.kind≠ .plain∧(x.kind= .said→k=0))∨(¬ShN Wg x.loc∧((1≤k∧x.loc= .cell ⟨C,k-1,none⟩)∨(∃b,blk x.loc=some b∧Sk b)∨((∃b,blk x.loc=some b∧Jq Wg C B0 b)∧x.write=false))))
def grow (S:Nat→Nat→Prop) (k:Nat) (w w':World):Nat→Nat→Prop:=fun k'=>if k'=k then grown (S k) w w' else S k'
theorem iB (S:Nat→Nat→Prop) (k:Nat) (w w':World):grow S k w w' k=grown (S k) w w':=by simp[grow]
theorem ji (S:Nat→Nat→Prop) {k k':Nat} (w w':World) (h:k'≠k):grow S k w w' k'=S k':=by simp[grow,h]
structure Env (Wg C B0 j:Nat) (w0 w:World) (t:Trace) (S:Nat→Nat→Prop):Prop where
 own:∀k b,S k b→B0≤b∧b<w.heap.size
 Sj:∀k k' b,S k b→S k' b→k=k'
 low:B0≤w.heap.size
 base:∀b,Jq Wg C B0 b→w.heap[b]? =w0.heap[b]?
 os:w.os=w0.os
 o:w.output=w0.output
 tape:w.tape=w0.tape
 seen:∀i x,touchAt t i=some x→∀b,blk x.loc=some b→b<w.heap.size
 ct:CT (ShN Wg) (Eb C S) (RdT Wg C B0) t j
section
variable {Wg C B0 j:Nat} {w0 w w':World} {t:Trace} {S S':Nat→Nat→Prop}
theorem vH {Wg:Nat} {l:Loc} (h:ShN Wg l):blk l=some Wg:=by obtain⟨a,rfl,e⟩:=h;simp[blk,e]
theorem apart (hW:Wg<B0) (hC:C<B0) (hCW:C≠Wg) (own:∀k b,S k b→B0≤b) (Sj:∀k k' b,S k b→S k' b→k=k'):Apart (ShN Wg) (Eb C S) (RdT Wg C B0):=by
 have key:∀{k l b},Eb C S k l→blk l=some b→b=C∨B0≤b:=by
  rintro k l b ⟨_,rfl|⟨b',h1,h2⟩⟩ h
  ·left;simpa[blk]using h.symm
  ·rw[h1]at h;cases h;exact .inr (own _ _ h2)
 refine⟨?_,?_,?_,?_⟩
 ·rintro k k' l ⟨h1,h2⟩ ⟨h3,h4⟩;rcases h2 with rfl|⟨b,h5,h6⟩
  ·rcases h4 with h4|⟨b,h5,h6⟩
   ·simp at h4;omega
   ·simp[blk]at h5;subst h5;have:=own _ _ h6;omega
  ·rcases h4 with rfl|⟨b',h7,h8⟩
   ·simp[blk]at h5;subst h5;have:=own _ _ h6;omega
   ·rw[h5]at h7;cases h7;exact Sj _ _ _ h6 h8
 ·rintro k k' l h ⟨b,h1,h2,h3,h4⟩;rcases key h h1 with rfl|h5
  ·exact h4 rfl
  ·omega
 ·intro k l h hs;rcases key h (vH hs)with h5|h5
  ·exact hCW h5.symm
  ·omega
 ·rintro k l ⟨b,h1,h2,h3,h4⟩ hs;rw[vH hs]at h1;cases h1;exact h3 rfl
theorem JS {Sh:Loc→Prop} {Own Own' Rd:Nat→Loc→Prop} (h:CT Sh Own Rd t j) (hup:∀k l,1≤k→k≤j→Own k l→Own' k l) (hdn:∀k l,1≤k→k≤j→Own' k l→Own k l∨∀i x,touchAt t i=some x→x.loc≠l):CT Sh Own' Rd t j:=
 ⟨h.quiet,fun k k1 kj l hl=>(hdn k l k1 kj hl).elim (h.own k k1 kj l) fun hx i a ha e=>absurd e (hx i a ha),h.rd,
   fun l hs hl=>h.free l hs fun k k1 kj=>⟨fun x=>(hl k k1 kj).1 (hup k l k1 kj x),(hl k k1 kj).2⟩,fun l hs hl=>h.mine l hs fun k k1 kj x=>hl k k1 kj (hup k l k1 kj x),h.nr,h.gs⟩
theorem Env.at (h:Env Wg C B0 j w0 w t S) (d:Nat):Env Wg C B0 j w0 (w.at d) t S:=⟨h.own,h.Sj,h.low,h.base,h.os,h.o,h.tape,h.seen,h.ct⟩
structure Eff (ty:TypeId) (Wg C n k:Nat) [Payload] (Sk:Nat→Prop) (w w':World):Prop where
 keep:∀b,b<w.heap.size→¬Sk b→b≠Wg→b≠C→w'.heap[b]? =w.heap[b]?
 size:w.heap.size≤w'.heap.size
 os:w'.os=w.os
 o:w'.output=w.output
 tape:w'.tape=w.tape
 live:WgLive ty Wg w→WgLive ty Wg w'
 pay:PayAt C n w→PayAt C n w'
 cells:∀i,i+1≠k→w'.cell? ⟨C,i,none⟩=w.cell? ⟨C,i,none⟩
theorem Env.step [Payload] {ty:TypeId} {n k:Nat} (hW:Wg<B0) (hC:C<B0) (hCW:C≠Wg) (hk:k≤j) (h:Env Wg C B0 j w0 w t S) (E:Eff ty Wg C n k (S k) w w') {fn:FuncId} {pos:String} {es:Array Event}
 (hes:∀op∈MemOp.ofEvents k fn pos es,OkOp Wg C B0 k w'.heap.size (grown (S k) w w') op):Env Wg C B0 j w0 w' (t++MemOp.ofEvents k fn pos es) (grow S k w w'):=by
 have hz:=E.size;have own':∀k' b,grow S k w w' k' b→B0≤b∧b<w'.heap.size:=by
  intro k' b hb;by_cases e:k'=k
  ·subst e;rw[iB]at hb;rcases hb with hb|hb
   ·have:=h.own _ _ hb;omega
   ·have:=h.low;omega
  ·rw[ji _ _ _ e]at hb;have:=h.own _ _ hb;omega
 have KV:∀k1 k2 b,grow S k w w' k1 b→grow S k w w' k2 b→k1=k2:=by
  intro k1 k2 b h1 h2;by_cases e1:k1=k<;>by_cases e2:k2=k
  ·omega
  ·subst e1;rw[iB]at h1;rw[ji _ _ _ e2]at h2;rcases h1 with h1|h1
   ·exact h.Sj _ _ _ h1 h2
   ·have:=h.own _ _ h2;omega
  ·subst e2;rw[iB]at h2;rw[ji _ _ _ e1]at h1;rcases h2 with h2|h2
   ·exact h.Sj _ _ _ h1 h2
   ·have:=h.own _ _ h1;omega
  ·rw[ji _ _ _ e1]at h1;rw[ji _ _ _ e2]at h2;exact h.Sj _ _ _ h1 h2
 have A:=apart hW hC hCW (fun k b x=>(own' k b x).1) KV;have ct1:CT (ShN Wg) (Eb C (grow S k w w')) (RdT Wg C B0) t j:=by
  refine JS h.ct ?_ ?_
  ·rintro k' l k1 kj ⟨h1,h2⟩;refine⟨h1,h2.imp id ?_⟩;rintro⟨b,h3,h4⟩;refine⟨b,h3,?_⟩;by_cases e:k'=k
   ·subst e;rw[iB];exact .inl h4
   ·rw[ji _ _ _ e];exact h4
  ·rintro k' l k1 kj ⟨h1,h2⟩;rcases h2 with h2|⟨b,h3,h4⟩
   ·exact .inl ⟨h1,.inl h2⟩
   ·by_cases e:k'=k
    ·subst e;rw[iB]at h4;rcases h4 with h4|h4
     ·exact .inl ⟨h1,.inr ⟨b,h3,h4⟩⟩
     ·exact .inr fun i x hx e=>by have:=h.seen i x hx b (e▸h3);omega
    ·rw[ji _ _ _ e]at h4;exact .inl ⟨h1,.inr ⟨b,h3,h4⟩⟩
 have adg:∀{b:Nat} {l:Loc},blk l=some b→grown (S k) w w' b→∀k',1≤k'→k'≤j→k'≠k→¬Eb C (grow S k w w') k' l:=by
  rintro b l hb hg k' k1 kj hne ⟨_,h2⟩;have hg':grow S k w w' k b:=by rw[iB];exact hg
  rcases h2 with rfl|⟨b',h3,h4⟩
  ·simp[blk]at hb;subst hb;have:=(own' k _ hg').1;omega
  ·rw[hb]at h3;cases h3;exact hne (KV _ _ _ h4 hg')
 refine⟨own',KV,Nat.le_trans h.low hz,fun b hb=>?_,E.os.trans h.os,E.o.trans h.o,E.tape.trans h.tape,fun i x hx b hb=>?_,?_⟩
 ·rw[←h.base b hb];exact E.keep b (Nat.lt_of_lt_of_le hb.1 h.low) (fun x=>by have:=(h.own _ _ x).1;have:=hb.1;omega) hb.2.1 hb.2.2
 ·obtain⟨op,ho,hx'⟩:=touch_of hx;rcases getElem?_append_cases ho with⟨_,ho'⟩|⟨_,hou⟩
  ·have:=h.seen i x (by rw[touchAt_of ho'];exact hx') b hb;omega
  ·exact((hes op hou).t x hx').1 b hb
 ·rcases Nat.eq_zero_or_pos k with rfl|kp
  ·refine ct1.app0 A fun op hop=>⟨(hes op hop).g,fun x hx=>?_⟩;rcases((hes op hop).t x hx).2 with⟨h1,h2,_⟩|⟨h1,h2|⟨b,h2,h3⟩|⟨⟨b,h2,h3⟩,h4⟩⟩
   ·exact .inl ⟨h1,h2⟩
   ·omega
   ·exact .inr ⟨h1,fun k' k1 kj=>adg h2 h3 k' k1 kj (by omega),fun _ k' _ _ ⟨b',h5,h6⟩=>by
     rw[h2]at h5;cases h5;have hg':grow S 0 w w' 0 b:=by rw[iB];exact h3
     have:=(own' 0 b hg').1
     have:=h6.1;omega⟩
   ·exact .inr ⟨h1,fun k' _ _ ho=>A.ownRd k' 0 x.loc ho ⟨b,h2,h3⟩,fun hw=>by rw[h4]at hw;cases hw⟩
  ·refine ct1.appW A kp hk fun op hop=>⟨(hes op hop).g,fun x hx=>?_⟩;rcases((hes op hop).t x hx).2 with⟨h1,h2,h3⟩|⟨h1,h2|⟨b,h2,h3⟩|⟨h2,h4⟩⟩
   ·exact .inl ⟨h1,h2,fun e=>by have:=h3 e;omega⟩
   ·exact .inr (.inl ⟨kp,.inl h2.2⟩)
   ·exact .inr (.inl ⟨kp,.inr ⟨b,h2,by rw[iB];exact h3⟩⟩)
   ·exact .inr (.inr ⟨h2,h4⟩)
theorem Eff.ry [Payload] {ty:TypeId} {n k k':Nat} (h:Env Wg C B0 j w0 w t S) (E:Eff ty Wg C n k (S k) w w') (hW:Wg<B0) (hC:C<B0) (hne:k'≠k):RY (fun b=>Jq Wg C B0 b∨S k' b) w w':=by
 refine⟨fun b hb=>?_,E.size,E.os⟩;rcases hb with hb|hb
 ·exact E.keep b (Nat.lt_of_lt_of_le hb.1 h.low) (fun x=>by have:=(h.own _ _ x).1;have:=hb.1;omega) hb.2.1 hb.2.2
 ·have:=h.own _ _ hb;exact E.keep b this.2 (fun x=>hne (h.Sj _ _ _ hb x)) (by omega) (by omega)
theorem Eff.rw [Payload] {ty:TypeId} {n k i:Nat} {Sk:Nat→Prop} (E:Eff ty Wg C n k Sk w w') (hne:i+1≠k):RW ty Wg C n 0 i w w':=⟨fun b hb=>by omega,E.live,E.pay,E.cells i hne⟩
end
end Go.Ren
namespace Go.Ren
open Go.Conc Go.ConcN
open Go.ConcR (KK wgBlock WgAt stA smA rd wr mk Payload Aside2 DC0 Bk g_of_ofEvents bk_of_mute ofEvent_loc_mark ofEvent_cell deafBehind_cons deafBehind_one ofEvent_mk again_blocked)
set_option linter.unusedSimpArgs false
set_option linter.unusedVariables false
set_option linter.unusedSectionVars false
section
variable {Wg C B0 k lo hi:Nat} {S Sk:Nat→Prop} {fn:FuncId} {pos:String} {e:Event}
theorem oO (h:(MemAct.ofEvent e).touch?=none):OkOp Wg C B0 k hi Sk {g:=k,fn,pos,act:=.ofEvent e}:=⟨rfl,fun x hx=>by simp only[h]at hx;cases hx⟩
theorem ER (hW:Wg<B0) (hlo:B0≤lo) (hh:lo≤hi) (own:∀b,S b→B0≤b∧b<lo) (h:Wj (Jq Wg C B0) S lo hi e):OkOp Wg C B0 k hi (fun b=>S b∨(lo≤b∧b<hi)) {g:=k,fn,pos,act:=.ofEvent e}:=by
 have core:∀(l:Loc) (b:Nat) (kd:Touch.Kind),blk l=some b→(S b∨(lo≤b∧b<hi)∨(Jq Wg C B0 b∧e.write=false))→
  (∀b',blk l=some b'→b'<hi)∧((ShN Wg l∧kd≠ .plain∧(kd= .said→k=0))∨(¬ShN Wg l∧((1≤k∧l= .cell ⟨C,k-1,none⟩)∨(∃b,blk l=some b∧(S b∨(lo≤b∧b<hi)))∨((∃b,blk l=some b∧Jq Wg C B0 b)∧e.write=false)))):=by
  intro l b kd hb hc;have nsh:b≠Wg→¬ShN Wg l:=fun hne hs=>by rw[vH hs]at hb;cases hb;exact hne rfl
  rcases hc with hc|hc|⟨hc,hw⟩
  ·have:=own b hc;exact⟨fun b' h'=>by rw[hb]at h';cases h';omega,.inr ⟨nsh (by omega),.inr (.inl ⟨b,hb,.inl hc⟩)⟩⟩
  ·exact⟨fun b' h'=>by rw[hb]at h';cases h';omega,.inr ⟨nsh (by omega),.inr (.inl ⟨b,hb,.inr hc⟩)⟩⟩
  ·exact⟨fun b' h'=>by rw[hb]at h';cases h';have:=hc.1;omega,.inr ⟨nsh hc.2.1,.inr (.inr ⟨⟨b,hb,hc⟩,hw⟩)⟩⟩
 obtain⟨loc,wr,sy⟩:=e;rcases h with⟨a,h1,h2⟩|⟨r,h1,h2⟩|⟨m,h1,h2⟩
 ·simp only at h1;subst h1;refine⟨rfl,fun x hx=>?_⟩;have hx':x=⟨.cell a,wr,if sy then .atomic else .plain⟩:=by simpa[MemAct.ofEvent,MemAct.touch?]using hx.symm
  subst hx';exact core _ a.block _ rfl h2
 ·simp only at h1;subst h1;refine⟨rfl,fun x hx=>?_⟩;have hx':x=⟨.obj r,wr,if sy then .atomic else .plain⟩:=by cases wr<;>cases sy<;>first|(simp[MemAct.ofEvent,MemAct.touch?]at hx;done)|simpa[MemAct.ofEvent,MemAct.touch?]using hx.symm
  subst hx';exact core _ r _ rfl h2
 ·simp only at h1;subst h1;exact oO (by cases m<;>first|rfl|cases h2)
theorem Kc (hh:Wg<hi) (h:Bk Wg e):OkOp Wg C B0 k hi Sk {g:=k,fn,pos,act:=.ofEvent e}:=by
 rcases h with h1|h1|⟨a,wr,rfl,ha⟩
 ·exact oO (by rw[ofEvent_loc_mark h1];rfl)
 ·exact oO (by rw[ofEvent_loc_mark h1];rfl)
 ·refine⟨rfl,fun x hx=>?_⟩;simp only[ofEvent_cell,MemAct.touch?,Option.some.injEq]at hx;subst hx;exact⟨fun b hb=>by simp[blk]at hb;omega,.inl ⟨⟨a,rfl,ha⟩,by simp,by simp⟩⟩
theorem O4 (hC:C<hi) (hh:Wg<hi) (hCW:C≠Wg) (h:EvW Wg (yA C) NJ k e):OkOp Wg C B0 k hi Sk {g:=k,fn,pos,act:=.ofEvent e}:=by
 obtain⟨_,h1⟩:=h.1 fn pos;refine⟨rfl,fun x hx=>?_⟩;rcases h1 x hx with⟨h2,h3,h4⟩|⟨h2,h3⟩|⟨h2,_⟩
 ·exact⟨fun b hb=>by rw[vH h2]at hb;cases hb;exact hh,.inl ⟨h2,h3,fun e=>absurd e h4⟩⟩
 ·refine⟨fun b hb=>by rw[h3]at hb;simp[blk]at hb;omega,.inr ⟨fun hs=>?_,.inl ⟨h2,h3⟩⟩⟩;have:=vH hs;rw[h3]at this;simp[blk]at this;exact hCW this
 ·exact h2.elim
def Said (Wg:Nat) (e:Event):Prop:=∃a,(e=⟨.mark (.read a),false,true⟩∨e=⟨.mark (.write a),false,true⟩)∧a.block=Wg
theorem Ls (hh:Wg<hi) (h:Said Wg e):OkOp Wg C B0 0 hi Sk {g:=0,fn,pos,act:=.ofEvent e}:=by
 obtain⟨a,h1,h2⟩:=h;refine⟨rfl,fun x hx=>?_⟩;have hx':x.loc= .cell a∧x.kind= .said:=by rcases h1 with rfl|rfl<;>(simp[MemAct.ofEvent,MemAct.touch?]at hx;subst hx;exact⟨rfl,rfl⟩)
 exact⟨fun b hb=>by rw[hx'.1]at hb;simp[blk]at hb;omega,.inl ⟨⟨a,hx'.1,h2⟩,by rw[hx'.2];simp,fun _=>rfl⟩⟩
theorem tN (h:Said Wg e):e.loc≠ .mark .disable∧e.loc≠ .mark .enable∧e.loc≠ .mark (.release (stA Wg)):=by obtain⟨a,rfl|rfl,_⟩:=h<;>exact⟨by simp,by simp,by simp⟩
theorem jB {Bs:Nat→Prop} (h:Wj Bs S lo hi e):e.loc≠ .mark .disable∧e.loc≠ .mark .enable∧e.loc≠ .mark (.release (stA Wg)):=by
 rcases h with⟨a,h,_⟩|⟨a,h,_⟩|⟨m,h,hm⟩
 ·rw[h];exact⟨by simp,by simp,by simp⟩
 ·rw[h];exact⟨by simp,by simp,by simp⟩
 ·rw[h];refine⟨?_,?_,?_⟩<;>(intro x;cases x;cases hm)
end
theorem Ic {Wg C B0 k hi:Nat} {Sk:Nat→Prop} {fn:FuncId} {pos:String} {es:Array Event} (h:∀e∈es,OkOp Wg C B0 k hi Sk {g:=k,fn,pos,act:=.ofEvent e}):∀op∈MemOp.ofEvents k fn pos es,OkOp Wg C B0 k hi Sk op:=by intro op hop;obtain⟨e,he,rfl⟩:=Go.Conc.mem_ofEvents hop;exact h e he
structure oF (Wg:Nat) (t:Trace) (k r:Nat):Prop where
 QK:RelBy (stA Wg) t k r
 sh:∀i x,r<i→t.g? i=some k→touchAt t i=some x→ShN Wg x.loc
theorem oF.app {Wg:Nat} {t u:Trace} {k r:Nat} (h:oF Wg t k r) (hb:RelBy (stA Wg) (t++u) k r) (hu:∀op∈u,op.g=k→∀x,op.act.touch?=some x→ShN Wg x.loc):oF Wg (t++u) k r:=by
 refine⟨hb,fun i x hi hg hx=>?_⟩;obtain⟨op,ho,hx'⟩:=touch_of hx;rcases getElem?_append_cases ho with⟨hlt,ho'⟩|⟨_,hou⟩
 ·exact h.sh i x hi (by rw[←g?_old (u:=u) hlt];exact hg) (by rw[touchAt_of ho'];exact hx')
 ·exact hu op hou (by simpa[Trace.g?,ho]using hg) x hx'
theorem oF.other {Wg:Nat} {t u:Trace} {k r g:Nat} (h:oF Wg t k r) (hu:∀op∈u,op.g=g) (hg:g≠k):oF Wg (t++u) k r:=
 h.app (h.QK.appOther hu hg) fun op hop e=>absurd ((hu op hop).symm.trans e) hg
theorem oF.not {Wg:Nat} {t u:Trace} {k r:Nat} (h:oF Wg t k r) (hu:∀op∈u,op.g≠k):oF Wg (t++u) k r:=
 h.app (h.QK.appNot hu) fun op hop e=>absurd e (hu op hop)
theorem oF.book {Wg:Nat} {t:Trace} {k r d:Nat} (h:oF Wg t k r) (hdk:Deaf t k=d) (fn:FuncId) (pos:String) {es:Array Event} (hes:∀e∈es,Bk Wg e)
 (hd:∀j e,es[j]? =some e→(MemAct.ofEvent e).touch?=none∨0<deafBehind d (es.extract 0 j)):oF Wg (t++MemOp.ofEvents k fn pos es) k r:=by
 refine h.app (h.QK.book hdk fn pos hes hd) fun op hop _ x hx=>?_;obtain⟨e,he,rfl⟩:=Go.Conc.mem_ofEvents hop;rcases hes e he with h1|h1|⟨a,wr,rfl,ha⟩
 ·simp only[ofEvent_loc_mark h1]at hx;cases hx
 ·simp only[ofEvent_loc_mark h1]at hx;cases hx
 ·simp only[ofEvent_cell,MemAct.touch?,Option.some.injEq]at hx;subst hx;exact⟨a,rfl,ha⟩
theorem oF.new {Wg:Nat} {t:Trace} {k:Nat} (hd:Deaf t k=0) (fn:FuncId) (pos:String):oF Wg (t++MemOp.ofEvents k fn pos #[Go.ConcR.mk (.releaseMerge (stA Wg))]) k t.size:=by
 refine⟨RelBy.new hd fn pos,fun i x hi hg hx=>?_⟩;obtain⟨op,ho,_⟩:=touch_of hx;have:=lt_size_of_getElem? ho;have e1:MemOp.ofEvents k fn pos #[Go.ConcR.mk (.releaseMerge (stA Wg))]= #[{g:=k,fn,pos,act:=.mark (.releaseMerge (stA Wg))}]:=by rw[ofEvents_eq];simp[ofEvent_mk]
 rw[e1]at this;simp at this;omega
end Go.Ren
namespace Go.Ren
open Go.Conc Go.ConcN
open Go.ConcR (KK wgBlock WgAt stA smA rd wr mk Payload Aside2 DC0 Bk g_of_ofEvents bk_of_mute ofEvent_loc_mark ofEvent_cell deafBehind_cons deafBehind_one ofEvent_mk again_blocked)
set_option linter.unusedSimpArgs false
set_option linter.unusedVariables false
set_option linter.unusedSectionVars false
structure dR where
 P:Program
 ty:TypeId
 Wg:Nat
 C:Nat
 n:Nat
 B0:Nat
 w0:World
 val:Nat→Value
 anch:(Nat→Prop)→Goroutine→World→Prop
 fin:Goroutine→World→Prop
namespace dR
variable [Payload] (c:dR)
def Bs:Nat→Prop:=Jq c.Wg c.C c.B0
def RL (S:Nat→Prop) (w w₁:World):Prop:=RY (fun b=>c.Bs b∨S b) w w₁∧(WgLive c.ty c.Wg w→WgLive c.ty c.Wg w₁)
def DS (w w':World) (es:Array Event):Prop:=w'=w∧∀e∈es,Said c.Wg e
def GP (S:Nat→Prop) (Stop:Goroutine→World→Prop):Nat→Goroutine→World→Prop:=Goes c.P true (c.RL S) c.DS Stop
section
variable (S:Nat→Prop)
def Xu (g:Goroutine) (w:World):Prop:=g.status= .running∧∃g',stepG c.P true g w= .go g' w #[Go.ConcR.mk (.acquire (stA c.Wg))]∧c.fin g' w
def XKe (g:Goroutine) (w:World):Prop:=g.status= .running∧∃g',stepG c.P true g w= .go g' w #[Go.ConcR.mk .enable]∧∃m,c.GP S c.Xu m g' w
def XW4 (g:Goroutine) (w:World):Prop:=g.status= .running∧(WgAt c.ty c.Wg w 0 0→∃g',stepG c.P true g w= .go g' w #[rd (stA c.Wg)]∧∃m,c.GP S (c.XKe S) m g' w)
def XW3 (g:Goroutine) (w:World):Prop:=
 g.status= .running∧g.offers=none∧((∃st,WgAt c.ty c.Wg w st 0)→stepG c.P true g w= .go {g with status:=.blocked} w #[])∧
  (WgAt c.ty c.Wg w 0 1→∃g',stepG c.P true g w= .go g' (w.setCell (smA c.Wg) (.int .u32 0)) (semEvents (smA c.Wg))∧∃m,c.GP S (c.XW4 S) m g' (w.setCell (smA c.Wg) (.int .u32 0)))
def XW2 (vs:Nat) (g:Goroutine) (w:World):Prop:=
 g.status= .running∧∀v:Nat,v<2147483648→WgAt c.ty c.Wg w (v*KK) 0→
  (v=vs→∃g',stepG c.P true g w= .go g' (w.setCell (stA c.Wg) (.int .u64 (v*KK+1))) #[rd (stA c.Wg),wr (stA c.Wg)]∧∃m,c.GP S (c.XW3 S) m g' (w.setCell (stA c.Wg) (.int .u64 (v*KK+1))))∧
  (v≠vs→∃g',stepG c.P true g w= .go g' w #[rd (stA c.Wg)]∧∃m,c.GP S (c.anch S) m g' w)
def XW1 (g:Goroutine) (w:World):Prop:=
 g.status= .running∧∀v:Nat,v<2147483648→WgAt c.ty c.Wg w (v*KK) 0→∃g',stepG c.P true g w= .go g' w #[rd (stA c.Wg)]∧
  (v=0→∃m,c.GP S (c.XKe S) m g' w)∧(v≠0→∃m,c.GP S (c.XW2 S v) m g' w)
def XKd (g:Goroutine) (w:World):Prop:=g.status= .running∧∃g',stepG c.P true g w= .go g' w #[Go.ConcR.mk .disable]∧∃m,c.GP S (c.anch S) m g' w
end
def ES (i:Nat) (_:Nat→Prop) (g:Goroutine) (w:World):Prop:=
 g.status= .running∧(PayAt c.C c.n w→WgLive c.ty c.Wg w→Works c.P c.ty c.Wg c.C c.n (yA c.C) NJ 0 (i+1) (c.val i) g w)
section
variable (S:Nat→Prop) (j:Nat) (Next:Goroutine→World→Prop)
def XGo (g:Goroutine) (w:World):Prop:=g.status= .running∧∃g' child,stepG c.P true g w= .spawn g' child w #[]∧GE c.P false c.Bs (c.ES j) S child w∧Next g' w
def Tt (g:Goroutine) (w:World):Prop:=g.status= .running∧∃g',stepG c.P true g w= .go g' w #[Go.ConcR.mk .enable]∧∃m,c.GP S (c.XGo S j Next) m g' w
def XA1 (g:Goroutine) (w:World):Prop:=
 g.status= .running∧∀v:Nat,v<2147483647→WgAt c.ty c.Wg w (v*KK) 0→
  ∃g',stepG c.P true g w= .go g' (w.setCell (stA c.Wg) (.int .u64 ((v+1)*KK))) #[rd (stA c.Wg),wr (stA c.Wg)]∧∃m,c.GP S (c.Tt S j Next) m g' (w.setCell (stA c.Wg) (.int .u64 ((v+1)*KK)))
def QE (g:Goroutine) (w:World):Prop:=g.status= .running∧∃g',stepG c.P true g w= .go g' w #[Go.ConcR.mk .disable]∧∃m,c.GP S (c.XA1 S j Next) m g' w
end
def Gv:Nat→(Nat→Prop)→Goroutine→World→Prop
 | 0,S,g,w=>g.status= .running∧(WgLive c.ty c.Wg w→∃m,c.GP S (c.XKd S) m g w)
 |r+1,S,g,w=>g.status= .running∧(WgLive c.ty c.Wg w→∃m,c.GP S (c.QE S (c.n-(r+1)) (fun g w=>GE c.P true c.Bs (Gv r) (fun _=>False) g w)) m g w)
def NX (r:Nat) (g:Goroutine) (w:World):Prop:=GE c.P true c.Bs (c.Gv r) (fun _=>False) g w
inductive CX:CTag→Nat→Nat→Rk→Nat→(Nat→Prop)→Goroutine→World→Prop
 |g5 {r:Nat} {rk:Rk} {S:Nat→Prop} {g:Goroutine} {w:World}:r<c.n→GT c.P true c.Bs (c.Gv (r+1)) rk S g w→CX (.sp r 5) (c.n-(r+1)) 0 rk 0 S g w
 |skd {r m:Nat} {S:Nat→Prop} {g:Goroutine} {w:World}:r<c.n→c.GP S (c.QE S (c.n-(r+1)) (c.NX r)) m g w→CX (.sp r 5) (c.n-(r+1)) m .none 0 S g w
 |sa1 {r m:Nat} {S:Nat→Prop} {g:Goroutine} {w:World}:r<c.n→c.GP S (c.XA1 S (c.n-(r+1)) (c.NX r)) m g w→CX (.sp r 4) (c.n-(r+1)) m .none 1 S g w
 |ske {r m:Nat} {S:Nat→Prop} {g:Goroutine} {w:World}:r<c.n→c.GP S (c.Tt S (c.n-(r+1)) (c.NX r)) m g w→CX (.sp r 3) (c.n-(r+1)) m .none 1 S g w
 |sgo {r m:Nat} {S:Nat→Prop} {g:Goroutine} {w:World}:r<c.n→c.GP S (c.XGo S (c.n-(r+1)) (c.NX r)) m g w→CX (.sp r 2) (c.n-(r+1)) m .none 0 S g w
 |gk {rk:Rk} {S:Nat→Prop} {g:Goroutine} {w:World}:GT c.P true c.Bs (c.Gv 0) rk S g w→CX .kd c.n 0 rk 0 S g w
 |kd {m:Nat} {S:Nat→Prop} {g:Goroutine} {w:World}:c.GP S (c.XKd S) m g w→CX .kd c.n m .none 0 S g w
 |anch {m:Nat} {S:Nat→Prop} {g:Goroutine} {w:World}:c.GP S (c.anch S) m g w→CX .anch c.n m .none 1 S g w
 |w1 {m:Nat} {S:Nat→Prop} {g:Goroutine} {w:World}:c.GP S (c.XW1 S) m g w→CX .w1 c.n m .none 1 S g w
 |w2 {vs m:Nat} {S:Nat→Prop} {g:Goroutine} {w:World}:c.GP S (c.XW2 S vs) m g w→CX (.w2 vs) c.n m .none 1 S g w
 |w3 {m:Nat} {S:Nat→Prop} {g:Goroutine} {w:World}:c.GP S (c.XW3 S) m g w→CX .w3 c.n (m+1) .none 1 S g w
 |blk {S:Nat→Prop} {g:Goroutine} {w:World}:(∀w₁,c.RL S w w₁→c.XW3 S g w₁)→CX .blk c.n 0 .none 1 S {g with status:=.blocked} w
 |w4 {m:Nat} {S:Nat→Prop} {g:Goroutine} {w:World}:c.GP S (c.XW4 S) m g w→CX .w4 c.n m .none 1 S g w
 |ke {m:Nat} {S:Nat→Prop} {g:Goroutine} {w:World}:c.GP S (c.XKe S) m g w→CX .ke c.n m .none 1 S g w
 |acq {m:Nat} {S:Nat→Prop} {g:Goroutine} {w:World}:c.GP S c.Xu m g w→CX .acq c.n m .none 0 S g w
def WX (i:Nat) (d:WD) (r:Rk) (S:Nat→Prop) (g:Goroutine) (w:World):Prop:=
 (d.stage=7∧d.fuel=0∧d.deaf=0∧GT c.P false c.Bs (c.ES i) r S g w)∨(r= .none∧WSit c.P c.ty c.Wg c.C c.n (yA c.C) NJ 0 (i+1) (c.val i) d.stage d.fuel d.deaf g w)
structure Core (j:Nat) (gs:Array Goroutine) (w:World) (t:Trace) (D:Nat→WD) (rk:Nat→Rk) (S:Nat→Nat→Prop) (d0:Nat):Prop where
 env:Env c.Wg c.C c.B0 j c.w0 w t S
 size:gs.size=j+1
 wk:∀i,i<j→∃g,gs[i+1]? =some g∧c.WX i (D i) (rk (i+1)) (S (i+1)) g w
 norel:NoRelease (stA c.Wg) t
 deaf0:Deaf t 0=d0
 deafW:∀i,i<j→Deaf t (i+1)=(D i).deaf
 rel:∀i,i<j→(D i).stage≤6→∃r,oF c.Wg t (i+1) r
 has:∀i,i<j→(D i).stage≤6→Has c.C i (c.val i) w
 pay:PayAt c.C c.n w
 up:∀k b,j<k→¬S k b
structure Geo:Prop where
 hW:c.Wg<c.B0
 hC:c.C<c.B0
 hCW:c.C≠c.Wg
 hn:c.n<2147483648
 run:∀S g w,c.anch S g w→g.status= .running
 round:∀S g w,c.anch S g w→∃m,c.GP S (c.XW1 S) m g w
def IX (μ:Nat × (Nat→Rk) × Nat) (m:Machine) (t:Trace):Prop:=
 ∃(gs:Array Goroutine) (w:World) (sl:Option (Nat × Nat)) (j:Nat) (D:Nat→WD) (rk:Nat→Rk) (S:Nat→Nat→Prop) (tag:CTag) (f0 d0:Nat) (a:Goroutine) (st sm:Int),
  m=crowd gs w sl∧gs[0]? =some a∧c.CX tag j f0 (rk 0) d0 (S 0) a w∧c.Core j gs w t D rk S d0∧WgAt c.ty c.Wg w st sm∧Go.ConcN.Mode j D tag st sm∧μ=(phi c.n (Vc j D) tag+Ssum j D,rk,f0+2*Fsum j D)
end dR
section
variable [Payload] {c:dR}
theorem dR.RL.refl {S:Nat→Prop} (w:World):c.RL S w w:=⟨.refl w,id⟩
theorem dR.RL.trans {S:Nat→Prop}:∀a b d,c.RL S a b→c.RL S b d→c.RL S a d:=fun _ _ _ h h'=>⟨h.1.trans h'.1,h'.2 ∘ h.2⟩
theorem dR.CX.rely {tag:CTag} {j f d:Nat} {r:Rk} {S:Nat→Prop} {a:Goroutine} {w w':World} (h:c.CX tag j f r d S a w) (hr:c.RL S w w'):c.CX tag j f r d S a w':=by
 cases h with
 |g5 hn h=>exact .g5 hn (h.rely hr.1)
 |skd hn h=>exact .skd hn (Goes.rely dR.RL.trans h hr)
 |sa1 hn h=>exact .sa1 hn (Goes.rely dR.RL.trans h hr)
 |ske hn h=>exact .ske hn (Goes.rely dR.RL.trans h hr)
 |sgo hn h=>exact .sgo hn (Goes.rely dR.RL.trans h hr)
 |gk h=>exact .gk (h.rely hr.1)
 |kd h=>exact .kd (Goes.rely dR.RL.trans h hr)
 |anch h=>exact .anch (Goes.rely dR.RL.trans h hr)
 |w1 h=>exact .w1 (Goes.rely dR.RL.trans h hr)
 |w2 h=>exact .w2 (Goes.rely dR.RL.trans h hr)
 |w3 h=>exact .w3 (Goes.rely dR.RL.trans h hr)
 |blk h=>exact .blk (fun w₂ h₂=>h w₂ (dR.RL.trans _ _ _ hr h₂))
 |w4 h=>exact .w4 (Goes.rely dR.RL.trans h hr)
 |ke h=>exact .ke (Goes.rely dR.RL.trans h hr)
 |acq h=>exact .acq (Goes.rely dR.RL.trans h hr)
theorem dR.Gv.run:∀{r:Nat} (S:Nat→Prop) (g:Goroutine) (w:World),c.Gv r S g w→g.status= .running
 | 0,_,_,_,h=>h.1
 |_+1,_,_,_,h=>h.1
theorem dR.GP.up {S:Nat→Prop} {Stop:Goroutine→World→Prop} {m:Nat} {g:Goroutine} {w:World} (h:c.GP S Stop m g w) (hs:∀g w,Stop g w→g.status= .running):g.status= .running:=Goes.running hs w (.refl w) h
theorem dR.CX.status (G:c.Geo) {tag:CTag} {j f d:Nat} {r:Rk} {S:Nat→Prop} {a:Goroutine} {w:World} (h:c.CX tag j f r d S a w):(a.status= .running∧tag≠ .blk)∨(a.status= .blocked∧tag= .blk):=by
 cases h
 case blk=>exact .inr ⟨rfl,rfl⟩
 all_goals
  refine .inl ⟨?_,nofun⟩;rename_i h
  first|exact h.running dR.Gv.run|exact dR.GP.up h fun _ _ x=>x.1|exact dR.GP.up h (G.run S)
theorem dR.CX.wokenBy (G:c.Geo) {tag:CTag} {j f d:Nat} {r:Rk} {S:Nat→Prop} {a:Goroutine} {w w':World} (h:c.CX tag j f r d S a w) (hr:c.RL S w w') (g g':Goroutine):
 ∃tag' f',c.CX tag' j f' r d S (woken c.P g g' w' a) w'∧f'≤f+1∧(tag'=tag∨(tag= .blk∧tag'= .w3))∧(mayWake c.P g=true→g'.status= .running→tag'≠ .blk):=by
 have k:=h.rely hr;rcases k.status G with⟨up,ne⟩|⟨_,rfl⟩
 ·have e:woken c.P g g' w' a=a:=by unfold Go.Conc.woken;split<;>first|rfl|exact again_running _ (.inl up)
  exact⟨tag,f,e.symm▸k,Nat.le_succ f,.inl rfl,fun _ _=>ne⟩
 ·unfold Go.Conc.woken;split
  ·cases k with
   |blk sleep=>obtain⟨s1,s2,_⟩:=sleep w' (.refl w');refine⟨.w3,1,?_,by omega,.inr ⟨rfl,rfl⟩,fun _ _=>nofun⟩;rw[again_blocked s1 s2];exact .w3 (Goes.stop sleep)
  ·next no=>exact⟨.blk,f,k,Nat.le_succ f,.inl rfl,fun x y=>(no (by simp[x,y])).elim⟩
theorem dR.CX.bound {tag:CTag} {j f d:Nat} {r:Rk} {S:Nat→Prop} {a:Goroutine} {w:World} (h:c.CX tag j f r d S a w):j+pend tag≤c.n:=by cases h<;>simp only[pend]<;>(try simp)<;>omega
theorem dR.WX.status {i:Nat} {d:WD} {r:Rk} {S:Nat→Prop} {g:Goroutine} {w:World} (h:c.WX i d r S g w):g.status= .running∨g.status= .finished:=by
 rcases h with⟨_,_,_,h⟩|⟨_,h⟩
 ·exact .inl (h.running fun _ _ _ x=>x.1)
 ·exact h.status
theorem dR.WX.running {i:Nat} {d:WD} {r:Rk} {S:Nat→Prop} {g:Goroutine} {w:World} (h:c.WX i d r S g w) (hs:d.stage≠1):g.status= .running:=by
 rcases h with⟨_,_,_,h⟩|⟨_,h⟩
 ·exact h.running fun _ _ _ x=>x.1
 ·exact h.running_of hs
theorem dR.WX.woken {i:Nat} {d:WD} {r:Rk} {S:Nat→Prop} {g:Goroutine} {w:World} (h:c.WX i d r S g w) (a a':Goroutine) (w':World):woken c.P a a' w' g=g:=by
 unfold Go.Conc.woken;split
 ·exact again_running _ h.status
 ·rfl
theorem dR.WX.rely {i:Nat} {d:WD} {r:Rk} {S:Nat→Prop} {g:Goroutine} {w w':World} (h:c.WX i d r S g w) (h1:RY (fun b=>c.Bs b∨S b) w w') (h2:RW c.ty c.Wg c.C c.n 0 i w w'):c.WX i d r S g w':=by
 rcases h with⟨a1,a2,a3,h⟩|⟨a1,h⟩
 ·exact .inl ⟨a1,a2,a3,h.rely h1⟩
 ·exact .inr ⟨a1,h.rely (by simpa using h2)⟩
theorem dR.Core.at {j:Nat} {gs:Array Goroutine} {w:World} {t:Trace} {D:Nat→WD} {rk:Nat→Rk} {S:Nat→Nat→Prop} {d0:Nat} (h:c.Core j gs w t D rk S d0) (d:Nat):c.Core j gs (w.at d) t D rk S d0:=
 ⟨h.env.at d,h.size,fun i hi=>let⟨g,hg,hs⟩:=h.wk i hi;⟨g,hg,hs.rely ⟨fun _ _=>rfl,Nat.le_refl _,rfl⟩ (RW.at w d)⟩,h.norel,h.deaf0,h.deafW,h.rel,h.has,h.pay,h.up⟩
theorem dR.Core.stepW (G:c.Geo) {j:Nat} {gs:Array Goroutine} {w w':World} {t:Trace} {D:Nat→WD} {rk:Nat→Rk} {S:Nat→Nat→Prop} {d0:Nat} (h:c.Core j gs w t D rk S d0) {i:Nat} (hi:i<j) {g g':Goroutine} {fn:FuncId} {pos:String} {es:Array Event} {s' m' dd':Nat} {r':Rk}
 (E:Eff c.ty c.Wg c.C c.n (i+1) (S (i+1)) w w') (hes:∀op∈MemOp.ofEvents (i+1) fn pos es,OkOp c.Wg c.C c.B0 (i+1) w'.heap.size (grown (S (i+1)) w w') op)
 (hs':c.WX i ⟨s',m',dd'⟩ r' (grown (S (i+1)) w w') g' w') (hnr:∀e∈es,e.loc≠ .mark (.release (stA c.Wg))) (hdeaf:deafBehind (D i).deaf es=dd')
 (hrel:s'≤6→∃r,oF c.Wg (t++MemOp.ofEvents (i+1) fn pos es) (i+1) r) (hhas:s'≤6→Has c.C i (c.val i) w'):
 c.Core j ((gs.map (woken c.P g g' w')).setIfInBounds (i+1) g') w' (t++MemOp.ofEvents (i+1) fn pos es) (upd D i ⟨s',m',dd'⟩) (upd rk (i+1) r') (grow S (i+1) w w') d0:=by
 have me:upd D i ⟨s',m',dd'⟩ i=⟨s',m',dd'⟩:=upd_same _ _ _;have old:∀k,k≠i→upd D i ⟨s',m',dd'⟩ k=D k:=fun k e=>upd_ne D _ e;have far:∀k,k≠i+1→Deaf (t++MemOp.ofEvents (i+1) fn pos es) k=Deaf t k:=fun k e=>Deaf_other t (Ne.symm e) _ g_of_ofEvents;have wk:∀k,k<j→∃x,((gs.map (woken c.P g g' w')).setIfInBounds (i+1) g')[k+1]? =some x∧c.WX k (upd D i ⟨s',m',dd'⟩ k) (upd rk (i+1) r' (k+1)) (grow S (i+1) w w' (k+1)) x w':=fun k l=>by
  by_cases e:k=i
  ·rw[e,me,upd_same,iB];exact⟨g',get_map_set_same _ _ _ (by rw[h.size];omega),hs'⟩
  ·obtain⟨x,at_,y⟩:=h.wk k l;rw[old k e,upd_ne rk _ (by omega),ji _ _ _ (by omega),get_map_set _ _ _ _ (by omega),at_];exact⟨x,congrArg some (y.woken _ _ _),y.rely (E.ry h.env G.hW G.hC (by omega)) (E.rw (by omega))⟩
 have aaw:∀k,k<j→Deaf (t++MemOp.ofEvents (i+1) fn pos es) (k+1)=(upd D i ⟨s',m',dd'⟩ k).deaf:=fun k l=>by
  by_cases e:k=i
  ·rw[e,me,Deaf_own,h.deafW i hi,hdeaf]
  ·rw[old k e,far _ (by omega),h.deafW k l]
 have rel:∀k,k<j→(upd D i ⟨s',m',dd'⟩ k).stage≤6→∃r,oF c.Wg (t++MemOp.ofEvents (i+1) fn pos es) (k+1) r:=fun k l z=>by
  by_cases e:k=i
  ·rw[e,me]at z;rw[e];exact hrel z
  ·rw[old k e]at z;exact(h.rel k l z).imp fun r y=>y.other g_of_ofEvents (by omega)
 have has:∀k,k<j→(upd D i ⟨s',m',dd'⟩ k).stage≤6→Has c.C k (c.val k) w':=fun k l z=>by
  by_cases e:k=i
  ·rw[e,me]at z;rw[e];exact hhas z
  ·rw[old k e]at z;exact(E.cells k (by omega)).trans (h.has k l z)
 exact⟨h.env.step G.hW G.hC G.hCW (by omega) E hes,by simp[h.size],wk,h.norel.app (norel_of hnr),(far 0 (by omega)).trans h.deaf0,aaw,rel,has,E.pay h.pay,fun k b l=>by rw[ji _ _ _ (by omega)];exact h.up k b l⟩
theorem dR.Core.step0 (G:c.Geo) {j:Nat} {gs:Array Goroutine} {w w':World} {t:Trace} {D:Nat→WD} {rk:Nat→Rk} {S:Nat→Nat→Prop} {d0:Nat} (h:c.Core j gs w t D rk S d0) {a a':Goroutine} {fn:FuncId} {pos:String} {es:Array Event} {r':Rk}
 (E:Eff c.ty c.Wg c.C c.n 0 (S 0) w w') (hes:∀op∈MemOp.ofEvents 0 fn pos es,OkOp c.Wg c.C c.B0 0 w'.heap.size (grown (S 0) w w') op) (hnr:∀e∈es,e.loc≠ .mark (.release (stA c.Wg))):
 c.Core j ((gs.map (woken c.P a a' w')).setIfInBounds 0 a') w' (t++MemOp.ofEvents 0 fn pos es) D (upd rk 0 r') (grow S 0 w w') (deafBehind d0 es):=by
 have wk:∀k,k<j→∃x,((gs.map (woken c.P a a' w')).setIfInBounds 0 a')[k+1]? =some x∧c.WX k (D k) (upd rk 0 r' (k+1)) (grow S 0 w w' (k+1)) x w':=fun k l=>by obtain⟨x,at_,y⟩:=h.wk k l;rw[upd_ne rk _ (Nat.succ_ne_zero k),ji _ _ _ (Nat.succ_ne_zero k),get_map_set _ _ _ _ (by omega),at_];exact⟨x,congrArg some (y.woken _ _ _),y.rely (E.ry h.env G.hW G.hC (by omega)) (E.rw (by omega))⟩
 exact⟨h.env.step G.hW G.hC G.hCW (by omega) E hes,by simp[h.size],wk,h.norel.app (norel_of hnr),(Deaf_own t _ _ _ _).trans (by rw[h.deaf0]),fun k l=>(Deaf_other t (by omega) _ g_of_ofEvents).trans (h.deafW k l),
  fun k l z=>(h.rel k l z).imp fun r y=>y.other g_of_ofEvents (by omega),fun k l z=>(E.cells k (by omega)).trans (h.has k l z),E.pay h.pay,fun k b l=>by rw[ji _ _ _ (by omega)];exact h.up k b l⟩
end
end Go.Ren
