import GoSem.Dispatch
import GoSem.Step
set_option linter.all false
namespace Go.Ren
def bW (ρ:Nat→Nat) (a:Addr):Addr:={a with block:=ρ a.block}
def mv (ρ:Nat→Nat):Value→Value
 | .bool b=>.bool b
 | .int k n=>.int k n
 | .float k b=>.float k b
 | .complex k a b=>.complex k a b
 | .string s=>.string s
 | .pointer a=>.pointer (a.map (bW ρ))
 | .slice a l c=>.slice (a.map (bW ρ)) l c
 | .map r=>.map (r.map ρ)
 | .chan r=>.chan (r.map ρ)
 | .func fn f c=>.func fn (f.map (mv ρ)) (c.map (mv ρ))
 | .nilFunc=>.nilFunc
 | .iface t v=>.iface t (mv ρ v)
 | .nilIface=>.nilIface
 | .agg cs=>.agg (cs.map (mv ρ))
 | .tuple vs=>.tuple (vs.map (mv ρ))
def lM (ρ:Nat→Nat):Obj→Obj
 | .cells c t f=>.cells (c.map (mv ρ)) t f
 | .pending c t=>.pending (c.map (mv ρ)) t
 | .view a t=>.view (bW ρ a) t
 | .number a l=>.number (bW ρ a) l
 |o=>o
def We (ρ:Nat→Nat):Mark→Mark
 | .acquire a=>.acquire (bW ρ a)
 | .release a=>.release (bW ρ a)
 | .releaseMerge a=>.releaseMerge (bW ρ a)
 | .read a=>.read (bW ρ a)
 | .write a=>.write (bW ρ a)
 |m=>m
def iq (ρ:Nat→Nat):Loc→Loc
 | .cell a=>.cell (bW ρ a)
 | .obj r=>.obj (ρ r)
 | .mark m=>.mark (We ρ m)
 |l=>l
def lK (ρ:Nat→Nat) (e:Event):Event:={e with loc:=iq ρ e.loc}
def mvH (ρ:Nat→Nat):Halt→Halt
 | .panic v=>.panic (mv ρ v)
 |h=>h
def Ku:Halt→Prop
 | .stuck _=>True
 | .unsupported (.initOrder _)=>False
 | .unsupported _=>True
 |_=>False
def M_:Halt→Prop
 | .panic _=>True
 | .blocked=>True
 |_=>False
def xn:Mark→Bool
 | .extern _| .noRoom=>true
 |_=>false
def mH (n:Nat):Loc→Prop
 | .cell a=>a.block<n
 | .obj r=>r<n
 | .mark m=>xn m=true
 |_=>False
theorem mH.mono {n m:Nat} (h:n≤m):∀{l:Loc},mH n l→mH m l
 | .cell _,x=>Nat.lt_of_lt_of_le x h
 | .obj _,x=>Nat.lt_of_lt_of_le x h
 | .mark _,x=>x
 | .output,x=>x
 | .goroutines,x=>x
def world {α:Type}:Result α→World
 | .ok _ w=>w
 | .halt _ w=>w
def acS:Halt→Prop
 | .panic _=>True
 |h=>Ku h
def CL {α:Type}:Result α→Prop
 | .halt h _=>acS h
 |_=>False
def one:Value→Bool
 | .agg _=>false
 | .tuple _=>false
 |_=>true
theorem Vh (ρ:Nat→Nat) (v:Value):one (mv ρ v)=one v:=by cases v<;>simp[mv,one]
theorem gJ {P:Program} {α:Type} {m:Mode} {a:Addr} {v:Value} {k:Sem α} {w:World} {es:Array Event} (hv:one v=false):
 (Sem.store m a v k).runT P w es=(.halt (.stuck "store: not the value of one cell") w,es):=by cases v<;>first|rfl|cases hv
theorem jw {P:Program} {α:Type} {m:Mode} {a:Addr} {v:Value} {k:Sem α} {w:World} {es:Array Event} (hv:one v=true):
 (Sem.store m a v k).runT P w es=match w.cell? a with
   |some _=>
    if w.frozen? a then(.halt (.unsupported (.unsafePointer "a write to bytes that a string shares")) w,es)
    else k.runT P (w.setCell a v) (es.push ⟨.cell a,true,m== .atomic⟩)
   |none=>match w.farStore P a v (m== .atomic)with
    | .ok (w,touched)=>k.runT P w (es++touched.toArray.map (⟨.cell ·,true,m== .atomic⟩))
    | .error h=>(.halt h w,es):=by cases v<;>first|rfl|cases hv
inductive SR (P:Program) (ρ:Nat→Nat) {α β:Type} (Q:α→β→Prop):Sem α→Sem β→Prop
 |pure {a:α} {b:β}:Q a b→SR P ρ Q (.pure a) (.pure b)
 |load {m:Mode} {a:Addr} {k:Value→Sem α} {k':Value→Sem β}:(∀v,SR P ρ Q (k v) (k' (mv ρ v)))→SR P ρ Q (.load m a k) (.load m (bW ρ a) k')
 |store {m:Mode} {a:Addr} {v:Value} {k:Sem α} {k':Sem β}:SR P ρ Q k k'→SR P ρ Q (.store m a v k) (.store m (bW ρ a) (mv ρ v) k')
 |new {o:Obj} {k:Nat→Sem α} {k':Nat→Sem β}:(∀c t,o≠ .pending c t)→(∀r,SR P ρ Q (k r) (k' (ρ r)))→SR P ρ Q (.new o k) (.new (lM ρ o) k')
 |shape {r:Nat} {k:Option (TypeId × Nat)→Sem α} {k':Option (TypeId × Nat)→Sem β}:(∀s,SR P ρ Q (k s) (k' s))→SR P ρ Q (.shape r k) (.shape (ρ r) k')
 |freeze {a:Addr} {n:Nat} {k:Sem α} {k':Sem β}:SR P ρ Q k k'→SR P ρ Q (.freeze a n k) (.freeze (bW ρ a) n k')
 |frozen {a:Addr} {k:Bool→Sem α} {k':Bool→Sem β}:(∀s,SR P ρ Q (k s) (k' s))→SR P ρ Q (.frozen a k) (.frozen (bW ρ a) k')
 |getObj {r:Nat} {k:Obj→Sem α} {k':Obj→Sem β}:(∀o,SR P ρ Q (k o) (k' (lM ρ o)))→SR P ρ Q (.getObj r k) (.getObj (ρ r) k')
 |setObj {r:Nat} {o:Obj} {k:Sem α} {k':Sem β}:(∀c t,o≠ .pending c t)→SR P ρ Q k k'→SR P ρ Q (.setObj r o k) (.setObj (ρ r) (lM ρ o) k')
 |env {k:SysRet→Sem α} {k':SysRet→Sem β}:(∀r w es,CL ((k r).runT P w es).1)→(∀r,SR P ρ Q (k r) (k' r))→SR P ρ Q (.sys .env k) (.sys .env k')
 |choose {q:Question} {k:Nat→Sem α} {k':Nat→Sem β}:(∀n,SR P ρ Q (k n) (k' n))→SR P ρ Q (.choose q k) (.choose q k')
 |program {k:Program→Sem α} {k':Program→Sem β}:SR P ρ Q (k P) (k' P)→SR P ρ Q (.program k) (.program k')
 |mark {m:Mark} {k:Sem α} {k':Sem β}:xn m=true→SR P ρ Q k k'→SR P ρ Q (.mark m k) (.mark (We ρ m) k')
 |halt {h:Halt}:M_ h→SR P ρ Q (.halt h) (.halt (mvH ρ h))
 |dead {h:Halt} {s:Sem β}:Ku h→SR P ρ Q (.halt h) s
theorem LD {P:Program} {α β:Type} (f:α→Sem β):∀(s:Sem α) (w:World) (es:Array Event),CL (s.runT P w es).1→CL ((s.bind f).runT P w es).1:=by
 intro s;induction s with
 |pure a=>intro w es h;exact h.elim
 |load m a k ih=>
  intro w es h;simp only[Sem.bind,Sem.runT]at h ⊢;split at h
  ·exact ih _ _ _ h
  ·split at h
   ·exact ih _ _ _ h
   ·exact h
 |store m a v k ih=>
  intro w es h;cases hv:one v with
  |false=>simp only[Sem.bind];rw[gJ hv]at h ⊢;exact h
  |true=>
   simp only[Sem.bind];rw[jw hv]at h ⊢;cases hc:w.cell? a with
   |some x=>
    simp only[hc]at h ⊢;cases hf:w.frozen? a with
    |true=>simp only[hf, ↓reduceIte]at h ⊢;exact h
    |false=>simp only[hf,Bool.false_eq_true, ↓reduceIte]at h ⊢;exact ih _ _ h
   |none=>
    simp only[hc]at h ⊢;cases hf:w.farStore P a v (m== .atomic)with
    |ok r=>simp only[hf]at h ⊢;exact ih _ _ h
    |error e=>simp only[hf]at h ⊢;exact h
 |new o k ih=>intro w es h;exact ih _ _ _ h
 |shape r k ih=>intro w es h;exact ih _ _ _ h
 |freeze a n k ih=>intro w es h;exact ih _ _ h
 |frozen a k ih=>intro w es h;exact ih _ _ _ h
 |getObj r k ih=>
  intro w es h;simp only[Sem.bind,Sem.runT]at h ⊢;split at h
  ·exact h
  ·exact ih _ _ _ h
  ·exact h
 |setObj r o k ih=>
  intro w es h;simp only[Sem.bind,Sem.runT]at h ⊢;split at h
  ·exact h
  ·exact ih _ _ h
  ·exact h
 |choose q k ih=>
  intro w es h;simp only[Sem.bind,Sem.runT]at h ⊢;cases hq:q.forced with
  |true=>simp only[hq, ↓reduceIte]at h ⊢;exact ih _ _ _ h
  |false=>simp only[hq,Bool.false_eq_true, ↓reduceIte]at h ⊢;exact ih _ _ _ h
 |sys c k ih=>intro w es h;exact ih _ _ _ h
 |program k ih=>intro w es h;exact ih _ _ _ h
 |mark m k ih=>intro w es h;exact ih _ _ h
 |halt h=>intro w es h;exact h
theorem SR.bind {P:Program} {ρ:Nat→Nat} {α β γ δ:Type} {Q:α→β→Prop} {T:γ→δ→Prop} {s:Sem α} {s':Sem β} {f:α→Sem γ} {f':β→Sem δ}
 (h:SR P ρ Q s s') (hf:∀a b,Q a b→SR P ρ T (f a) (f' b)):SR P ρ T (s.bind f) (s'.bind f'):=by
 induction h with
 |pure h=>exact hf _ _ h
 |load _ ih=>exact .load ih
 |store _ ih=>exact .store ih
 |new hp _ ih=>exact .new hp ih
 |shape _ ih=>exact .shape ih
 |freeze _ ih=>exact .freeze ih
 |frozen _ ih=>exact .frozen ih
 |getObj _ ih=>exact .getObj ih
 |setObj hp _ ih=>exact .setObj hp ih
 |env hp _ ih=>exact .env (fun r w es=>LD _ _ _ _ (hp r w es)) ih
 |choose _ ih=>exact .choose ih
 |program _ ih=>exact .program ih
 |mark hm _ ih=>exact .mark hm ih
 |halt h=>exact .halt h
 |dead h=>exact .dead h
theorem SR.mono {P:Program} {ρ:Nat→Nat} {α β:Type} {Q T:α→β→Prop} {s:Sem α} {s':Sem β} (h:SR P ρ Q s s') (hq:∀a b,Q a b→T a b):SR P ρ T s s':=by
 induction h with
 |pure h=>exact .pure (hq _ _ h)
 |load _ ih=>exact .load ih
 |store _ ih=>exact .store ih
 |new hp _ ih=>exact .new hp ih
 |shape _ ih=>exact .shape ih
 |freeze _ ih=>exact .freeze ih
 |frozen _ ih=>exact .frozen ih
 |getObj _ ih=>exact .getObj ih
 |setObj hp _ ih=>exact .setObj hp ih
 |env hp _ ih=>exact .env hp ih
 |choose _ ih=>exact .choose ih
 |program _ ih=>exact .program ih
 |mark hm _ ih=>exact .mark hm ih
 |halt h=>exact .halt h
 |dead h=>exact .dead h
structure WR (ρ:Nat→Nat) (V W:World):Prop where
 eq:∀(b:Nat),W.heap[ρ b]? =(V.heap[b]?).map (lM ρ)
 kg:∀(b:Nat) (c:Array Value) (t:TypeId),V.heap[b]? ≠some (Obj.pending c t)
 os:W.os=V.os
theorem WR.heap {ρ:Nat→Nat} {V W:World} (h:WR ρ V W) (b:Nat) (o:Obj) (hb:V.heap[b]? =some o):W.heap[ρ b]? =some (lM ρ o):=by rw[h.eq,hb];rfl
structure Out (ρ:Nat→Nat) (V W V' W':World):Prop where
 wr:WR ρ V' W'
 size:W'.heap.size+V.heap.size=W.heap.size+V'.heap.size
 drawn:W'.drawn+V.drawn=W.drawn+V'.drawn
 tape:W'.tape=W.tape
 os:W'.os=W.os
 output:W'.output=W.output
 frame:∀(c:Nat),c<W.heap.size→(∀b,b<V.heap.size→ρ b≠c)→W'.heap[c]? =W.heap[c]?
 BU:V.heap.size≤V'.heap.size
 Ja:V.drawn≤V'.drawn
 Gf:V'.tape=V.tape
 fresh:∀b,V.heap.size≤b→b<V'.heap.size→W.heap.size≤ρ b
 VU:V'.output=V.output
theorem Out.refl {ρ:Nat→Nat} {V W:World} (h:WR ρ V W):Out ρ V W V W:=⟨h,rfl,rfl,rfl,rfl,rfl,fun _ _ _=>rfl,Nat.le_refl _,Nat.le_refl _,rfl,fun b h1 h2=>absurd h1 (by omega),rfl⟩
theorem Out.trans {ρ:Nat→Nat} {V W V1 W1 V2 W2:World} (h:Out ρ V W V1 W1) (h':Out ρ V1 W1 V2 W2):Out ρ V W V2 W2:=by
 have a:=h.size;have b:=h'.size;have c:=h.BU;have d:=h'.BU;have e:=h.drawn;have f:=h'.drawn;have g:=h.Ja;have i:=h'.Ja;refine⟨h'.wr,by omega,by omega,h'.tape.trans h.tape,h'.os.trans h.os,h'.output.trans h.output,fun x hx hb=>?_,by omega,by omega,h'.Gf.trans h.Gf,fun x h1 h2=>?_,h'.VU.trans h.VU⟩
 ·rw[h'.frame x (by omega) fun y hy=>?_,h.frame x hx hb];rcases Nat.lt_or_ge y V.heap.size with hlt|hge
  ·exact hb y hlt
  ·have:=h.fresh y hge hy;omega
 ·rcases Nat.lt_or_ge x V1.heap.size with hlt|hge
  ·exact h.fresh x h1 hlt
  ·have:=h'.fresh x hge h2;omega
def Xq (ρ:Nat→Nat) {α β:Type} (Q:α→β→Prop):Result α→Result β→Prop
 | .ok a _,.ok b _=>Q a b
 | .halt h _,.halt h' _=>h'=mvH ρ h∧M_ h
 |_,_=>False
def GM {α:Type}:Result α→Prop
 | .halt h _=>Ku h
 |_=>False
structure Rn (ρ:Nat→Nat) {α β:Type} (Q:α→β→Prop) (V W:World) (es es':Array Event) (x:Result α × Array Event) (y:Result β × Array Event):Prop where
 ev:∃d,x.2=es++d∧y.2=es'++d.map (lK ρ)∧∀e∈d,mH (world x.1).heap.size e.loc∨(e.loc= .output∧CL x.1)
 res:Xq ρ Q x.1 y.1
 o:Out ρ V W (world x.1) (world y.1)
theorem Rn.step {ρ:Nat→Nat} {α β:Type} {Q:α→β→Prop} {V W V1 W1:World} {es es' d0:Array Event} {x:Result α × Array Event} {y:Result β × Array Event}
 (o:Out ρ V W V1 W1) (hd:∀e∈d0,mH V1.heap.size e.loc∨(e.loc= .output∧CL x.1)) (h:Rn ρ Q V1 W1 (es++d0) (es'++d0.map (lK ρ)) x y):Rn ρ Q V W es es' x y:=by
 obtain⟨d,h1,h2,h3⟩:=h.ev;refine⟨⟨d0++d,by rw[h1,Array.append_assoc],by rw[h2,Array.map_append,Array.append_assoc],fun e he=>?_⟩,h.res,o.trans h.o⟩;rcases Array.mem_append.1 he with he|he
 ·exact(hd e he).imp (fun z=>z.mono h.o.BU) id
 ·exact h3 e he
theorem Rn.still {ρ:Nat→Nat} {α β:Type} {Q:α→β→Prop} {V W:World} {es es':Array Event} {r:Result α} {r':Result β} (hw:WR ρ V W) (h1:world r=V) (h2:world r'=W) (h:Xq ρ Q r r'):Rn ρ Q V W es es' (r,es) (r',es'):=
 ⟨⟨#[],by simp,by simp,by simp⟩,h,by simp only[h1,h2];exact .refl hw⟩
end Go.Ren
set_option linter.unusedSimpArgs false
namespace Go.Ren
variable {P:Program} {ρ:Nat→Nat}
theorem Ef (v:Value):(mv ρ v).bytes?=v.bytes?:=by cases v<;>simp[mv,Value.bytes?]
theorem tK (l:Value) (bs:List UInt8):(mv ρ l).ofBytes bs=(l.ofBytes bs).map (mv ρ):=by cases l<;>simp[mv,Value.ofBytes]<;>split<;>simp[mv]
theorem uM:∀(d:Nat) (t:TypeId) (off:Nat) (v:Value),plainCell P d t off=some v→mv ρ v=v:=by
 intro d;induction d with
 |zero=>intro t off v h;simp[plainCell]at h
 |succ d ih=>
  intro t off v h;simp only[plainCell]at h;split at h
  ·obtain⟨f,_,hf⟩:=Array.exists_of_findSome?_eq_some h;split at hf
   ·exact ih _ _ _ hf
   ·simp at hf
  ·split at h
   ·simp at h
   ·exact ih _ _ _ h
  all_goals (try (split at h<;>simp at h<;>subst h<;>simp[mv]))
  simp at h
theorem CZ (c:Array Value) (e:TypeId):∀(n x s:Nat),seenCells P (c.map (mv ρ)) e n x s=seenCells P c e n x s:=by
 intro n;induction n with
 |zero=>intro x s;rfl
 |succ n ih=>
  intro x s;simp only[seenCells,Array.getElem?_map];split
  ·rfl
  ·split
   ·rfl
   ·split
    ·rfl
    ·rename_i i s' _;cases c[i]? with
     |none=>rfl
     |some v=>simp only[Option.map_some,Ef,ih]
theorem Ki {V W:World} (hw:WR ρ V W) {at_ k:Addr} {u:TypeId} {atomic:Bool} {c:Array Value} {e:TypeId} {f:Nat × Nat} {first:Nat} {like:Value} {cells:List (Nat × Nat × List UInt8)}
 (h:V.seen P at_ u k atomic= .ok (c,e,f,first,like,cells)):W.seen P (bW ρ at_) u (bW ρ k) atomic= .ok (c.map (mv ρ),e,f,first,like,cells)∧mv ρ like=like∧V.heap[at_.block]? =some (.cells c e f):=by
 obtain⟨ab,ao,as⟩:=at_;obtain⟨kb,ko,ks⟩:=k;rw[show bW ρ ⟨ab,ao,as⟩=⟨ρ ab,ao,as⟩ from rfl,show bW ρ ⟨kb,ko,ks⟩=⟨ρ kb,ko,ks⟩ from rfl];unfold World.seen at h ⊢;simp only[throwThe,MonadExceptOf.throw,MonadExcept.throw,bind,Except.bind,pure,Except.pure]at h ⊢;rcases Bool.eq_false_or_eq_true (ks.isSome||as.isSome)with hsp|hsp
 ·simp only[hsp, ↓reduceIte]at h;cases h
 simp only[hsp,Bool.false_eq_true, ↓reduceIte]at h ⊢;split at h
 rotate_left
 ·cases h
 rename_i l hl;have hlm:=uM (ρ:=ρ) _ _ _ _ hl;split at h
 rotate_left
 ·cases h
 rename_i sz hsz
 try simp only[hsz]at h ⊢
 split at h
 rotate_left
 ·cases h
 rename_i β hβ
 try simp only[hβ]at h ⊢
 split at h
 rotate_left
 ·cases h
 rename_i c0 e0 f0 hb;have hW:=hw.heap _ _ hb;simp only[lM]at hW;simp only[hW,CZ];by_cases hs:P.cellsOf e0=0
 ·simp only[hs, ↓reduceIte]at h;cases h
 simp only[hs, ↓reduceIte]at h ⊢;split at h
 rotate_left
 ·cases h
 rename_i b0 hb0
 try simp only[hb0]at h ⊢
 split at h
 ·cases h
 rename_i cl hcl
 try simp only[hcl]at h ⊢
 have fin:∀{y:Array Value × TypeId × (Nat × Nat) × Nat × Value × List (Nat × Nat × List UInt8)} {x:Nat},(Except.ok (c0,e0,f0,x,l,cl):Except String _)= .ok (c,e,f,first,like,cells)→
  (Except.ok (c0.map (mv ρ),e0,f0,x,l,cl):Except String _)= .ok (c.map (mv ρ),e,f,first,like,cells)∧mv ρ like=like∧V.heap[ab]? =some (.cells c e f):=by
  intro _ x hx;simp only[Except.ok.injEq,Prod.mk.injEq]at hx;obtain⟨rfl,rfl,rfl,rfl,rfl,rfl⟩:=hx;exact⟨rfl,hlm,hb⟩
 have y0:Array Value × TypeId × (Nat × Nat) × Nat × Value × List (Nat × Nat × List UInt8):=(c0,e0,f0,0,l,cl);cases atomic with
 |false=>simp only[Bool.false_eq_true, ↓reduceIte]at h ⊢;exact fin (y:=y0) h
 |true=>
  simp only[↓reduceIte]at h ⊢;split at h
  ·split at h
   ·cases h
   ·rename_i hq;simp only[hq,Bool.false_eq_true, ↓reduceIte];exact fin (y:=y0) h
  ·cases h
theorem Gd {V W:World} (hw:WR ρ V W) {at_ k:Addr} {u:TypeId} {atomic:Bool} {v:Value} {l:List Addr}
 (h:V.viewLoad P at_ u k atomic= .ok (v,l)):W.viewLoad P (bW ρ at_) u (bW ρ k) atomic= .ok (mv ρ v,l.map (bW ρ))∧∀a∈l,a.block=at_.block∧at_.block<V.heap.size:=by
 unfold World.viewLoad at h ⊢;cases hs:V.seen P at_ u k atomic with
 |error e=>simp[hs,bind,Except.bind]at h
 |ok r=>
  obtain⟨c,e,f,first,like,cells⟩:=r;obtain⟨h1,h2,h3⟩:=Ki hw hs;simp only[hs,h1,throwThe,MonadExceptOf.throw,MonadExcept.throw,bind,Except.bind,pure,Except.pure]at h ⊢;split at h
  rotate_left
  ·cases h
  rename_i v0 hv;simp only[Except.ok.injEq,Prod.mk.injEq]at h;obtain⟨rfl,rfl⟩:=h;have hv':mv ρ v0=v0:=by have:=tK (ρ:=ρ) like;rw[h2]at this;have:=this _▸hv;rw[hv]at this;simpa using this
  refine⟨?_,?_⟩
  ·rw[hv'];simp[bW,Function.comp_def]
  ·intro a ha;obtain⟨x,_,rfl⟩:=List.mem_map.1 ha;exact⟨rfl,(Array.getElem?_eq_some_iff.1 h3).1⟩
theorem uC {first:Nat} {frozen:Nat × Nat} {bytes:List UInt8}:∀(cells:List (Nat × Nat × List UInt8)) (c c':Array Value),
 (cells.foldlM (init:=c) fun c (x:Nat × Nat × List UInt8)=>do
   if x.2.1<first||x.2.1+x.2.2.length>first+bytes.length then MonadExcept.throw "memory seen as another type: a part of a cell written"
   if frozen.1≤x.1&&x.1<frozen.2 then MonadExcept.throw "a write to bytes that a string shares"
   let some old:=c[x.1]? |MonadExcept.throw "memory seen as another type: no such cell"
   let some new:=old.ofBytes ((bytes.drop (x.2.1-first)).take x.2.2.length)|MonadExcept.throw "memory seen as another type: a bool from a byte other than 0 or 1"
   pure (c.setIfInBounds x.1 new):Except String (Array Value))= .ok c'→
 (cells.foldlM (init:=c.map (mv ρ)) fun c (x:Nat × Nat × List UInt8)=>do
   if x.2.1<first||x.2.1+x.2.2.length>first+bytes.length then MonadExcept.throw "memory seen as another type: a part of a cell written"
   if frozen.1≤x.1&&x.1<frozen.2 then MonadExcept.throw "a write to bytes that a string shares"
   let some old:=c[x.1]? |MonadExcept.throw "memory seen as another type: no such cell"
   let some new:=old.ofBytes ((bytes.drop (x.2.1-first)).take x.2.2.length)|MonadExcept.throw "memory seen as another type: a bool from a byte other than 0 or 1"
   pure (c.setIfInBounds x.1 new):Except String (Array Value))= .ok (c'.map (mv ρ))∧c'.size=c.size:=by
 intro cells;induction cells with
 |nil=>intro c c' h;simp[List.foldlM,pure,Except.pure]at h ⊢;subst h;simp
 |cons x xs ih=>
  intro c c' h;simp only[List.foldlM_cons,throwThe,MonadExceptOf.throw,MonadExcept.throw,bind,Except.bind,pure,Except.pure]at h ⊢;split at h
  ·cases h
  rename_i c1 hc1;split at hc1
  ·cases hc1
  rename_i hn1;split at hc1
  ·cases hc1
  rename_i hn2;split at hc1
  rotate_left
  ·cases hc1
  rename_i old hold;split at hc1
  rotate_left
  ·cases hc1
  rename_i new hnew;simp only[Except.ok.injEq]at hc1;subst hc1;have e1:(c.map (mv ρ))[x.1]? =some (mv ρ old):=by simp[hold]
  have e2:(mv ρ old).ofBytes ((bytes.drop (x.2.1-first)).take x.2.2.length)=some (mv ρ new):=by rw[tK,hnew];rfl
  have e3:(c.map (mv ρ)).setIfInBounds x.1 (mv ρ new)=(c.setIfInBounds x.1 new).map (mv ρ):=by simp
  simp only[hn1,hn2,e1,e2,e3,Bool.false_eq_true, ↓reduceIte];have:=ih _ _ h;exact⟨this.1,by simpa using this.2⟩
theorem Dv {V W V':World} (hw:WR ρ V W) {at_ k:Addr} {u:TypeId} {atomic:Bool} {v:Value} {l:List Addr}
 (h:V.viewStore P at_ u k v atomic= .ok (V',l)):∃c e f,V.heap[at_.block]? =some (.cells c e f)∧∃c',c'.size=c.size∧V'= {V with heap:=V.heap.setIfInBounds at_.block (.cells c' e f)}∧
   W.viewStore P (bW ρ at_) u (bW ρ k) (mv ρ v) atomic= .ok ({W with heap:=W.heap.setIfInBounds (ρ at_.block) (.cells (c'.map (mv ρ)) e f)},l.map (bW ρ))∧∀a∈l,a.block=at_.block:=by
 unfold World.viewStore at h ⊢;simp only[throwThe,MonadExceptOf.throw,MonadExcept.throw,bind,Except.bind,pure,Except.pure]at h ⊢;split at h
 ·cases h
 rename_i ht;simp only[ht,Bool.false_eq_true, ↓reduceIte];split at h
 ·cases h
 rename_i r hs;obtain⟨c,e,f,first,like,cells⟩:=r;obtain⟨h1,h2,h3⟩:=Ki hw hs;simp only[h1,Ef]at h ⊢;split at h
 rotate_left
 ·cases h
 rename_i bytes hb
 try simp only[hb]
 split at h
 ·cases h
 rename_i hne;simp only[hne, ↓reduceIte];split at h
 ·cases h
 rename_i c' hc';have key:=uC (ρ:=ρ) (first:=first) (frozen:=f) (bytes:=bytes) cells c c';simp only[throwThe,MonadExceptOf.throw,MonadExcept.throw,bind,Except.bind,pure,Except.pure]at key;obtain⟨k1,k2⟩:=key hc';simp only[Except.ok.injEq,Prod.mk.injEq]at h;obtain⟨rfl,rfl⟩:=h;refine⟨c,e,f,h3,c',k2,rfl,?_,?_⟩
 ·split
  ·rename_i hx;have:=k1.symm.trans hx;cases this
  ·rename_i y hx;have:=k1.symm.trans hx;cases this;simp[bW,Function.comp_def]
 ·intro a ha;obtain⟨x,_,rfl⟩:=List.mem_map.1 ha;rfl
end Go.Ren
namespace Go.Ren
variable {P:Program} {ρ:Nat→Nat}
theorem KJ {α:Type} (w:World) (q:Ask α):(w.ask q).2.heap=w.heap∧w.drawn≤(w.ask q).2.drawn:=by
 induction q generalizing w with
 |done a=>exact⟨rfl,Nat.le_refl _⟩
 |ask what range k ih=>
  simp only[World.ask];split
  ·exact ih _ w
  ·have:=ih ((Question.extern what range).cut (w.tape w.drawn (.extern what range))) {w with drawn:=w.drawn+1};exact⟨this.1,Nat.le_trans (Nat.le_succ _) this.2⟩
theorem Mx (w:World) (c:Sys):(w.sys c).2.heap=w.heap∧w.drawn≤(w.sys c).2.drawn:=by
 have:=KJ w (Kernel.perform c w.os);unfold World.sys;split
 ·exact⟨rfl,Nat.le_refl _⟩
 ·rename_i r os w' h;rw[h]at this;exact this
theorem lX (w:World) (a:Addr) (v:Value):(w.setCell a v).heap.size=w.heap.size:=by simp[World.setCell]
theorem jC (w:World) (a:Addr) (n:Nat):(w.freeze a n).heap.size=w.heap.size∧(w.freeze a n).drawn=w.drawn:=by unfold World.freeze;split<;>simp
theorem mJ {w w':World} {a:Addr} {v:Value} {b:Bool} {l:List Addr} (h:w.farStore P a v b= .ok (w',l)):w'.heap.size=w.heap.size∧w'.drawn=w.drawn:=by
 unfold World.farStore at h;split at h
 ·split at h
  ·rename_i r hr;cases h;unfold World.viewStore at hr;simp only[throwThe,MonadExceptOf.throw,MonadExcept.throw,bind,Except.bind,pure,Except.pure]at hr
   repeat' split at hr
   all_goals first|(cases hr;done)|skip
   all_goals (cases hr;simp)
  ·cases h
 ·cases h
theorem Br {α:Type} (s:Sem α):∀(w:World) (es:Array Event),w.heap.size≤(world (s.runT P w es).1).heap.size∧w.drawn≤(world (s.runT P w es).1).drawn:=by
 induction s with
 |pure a=>intro w es;exact⟨Nat.le_refl _,Nat.le_refl _⟩
 |load m a k ih=>
  intro w es;simp only[Sem.runT];split
  ·exact ih _ _ _
  ·split
   ·exact ih _ _ _
   ·exact⟨Nat.le_refl _,Nat.le_refl _⟩
 |store m a v k ih=>
  intro w es;cases hv:one v with
  |false=>rw[gJ hv];exact⟨Nat.le_refl _,Nat.le_refl _⟩
  |true=>
   rw[jw hv];split
   ·split
    ·exact⟨Nat.le_refl _,Nat.le_refl _⟩
    ·have:=ih (w.setCell a v) (es.push ⟨.cell a,true,m== .atomic⟩);rw[lX]at this;exact this
   ·split
    ·rename_i w' l hf;have:=ih w' (es++l.toArray.map (⟨.cell ·,true,m== .atomic⟩));rw[(mJ hf).1,(mJ hf).2]at this;exact this
    ·exact⟨Nat.le_refl _,Nat.le_refl _⟩
 |new o k ih=>intro w es;simp only[Sem.runT];have:=ih w.heap.size {w with heap:=w.heap.push o} es;simp only[Array.size_push]at this;exact⟨by omega,this.2⟩
 |shape r k ih=>intro w es;exact ih _ _ _
 |freeze a n k ih=>intro w es;simp only[Sem.runT];have:=ih (w.freeze a n) es;rw[(jC w a n).1,(jC w a n).2]at this;exact this
 |frozen a k ih=>intro w es;exact ih _ _ _
 |getObj r k ih=>
  intro w es;simp only[Sem.runT];split
  ·exact⟨Nat.le_refl _,Nat.le_refl _⟩
  ·exact ih _ _ _
  ·exact⟨Nat.le_refl _,Nat.le_refl _⟩
 |setObj r o k ih=>
  intro w es;simp only[Sem.runT];split
  ·exact⟨Nat.le_refl _,Nat.le_refl _⟩
  ·have:=ih {w with heap:=w.heap.setIfInBounds r o} (es.push ⟨.obj r,true,o.isChan⟩);simpa using this
  ·exact⟨Nat.le_refl _,Nat.le_refl _⟩
 |choose q k ih=>
  intro w es;simp only[Sem.runT];split
  ·exact ih _ _ _
  ·have:=ih (q.cut (w.tape w.drawn q)) {w with drawn:=w.drawn+1} es;simp only at this;exact⟨this.1,by omega⟩
 |sys c k ih=>intro w es;simp only[Sem.runT];have:=ih (w.sys c).1 (w.sys c).2 (es.push ⟨.output,true,false⟩);have h2:=Mx w c;rw[h2.1]at this;exact⟨this.1,Nat.le_trans h2.2 this.2⟩
 |program k ih=>intro w es;exact ih _ _ _
 |mark m k ih=>intro w es;exact ih _ _
 |halt h=>intro w es;exact⟨Nat.le_refl _,Nat.le_refl _⟩
end Go.Ren
namespace Go.Ren
variable {P:Program} {ρ:Nat→Nat}
theorem JP {V W:World} (h:WR ρ V W) (a:Addr):W.cell? (bW ρ a)=(V.cell? a).map (mv ρ):=by
 unfold World.cell?;simp only[bW,h.eq];cases V.heap[a.block]? with
 |none=>rfl
 |some o=>cases o<;>simp[lM];split<;>simp
theorem Pt {V W:World} (h:WR ρ V W) (r:Nat):W.shape? (ρ r)=V.shape? r:=by
 unfold World.shape?;simp only[h.eq];cases V.heap[r]? with
 |none=>rfl
 |some o=>cases o<;>simp[lM]
theorem Bd {V W:World} (h:WR ρ V W) (a:Addr):W.frozen? (bW ρ a)=V.frozen? a:=by
 obtain⟨ab,ao,as⟩:=a;rw[show bW ρ ⟨ab,ao,as⟩=⟨ρ ab,ao,as⟩ from rfl];unfold World.frozen?;simp only[h.eq];cases V.heap[ab]? with
 |none=>rfl
 |some o=>cases o<;>simp[lM]
theorem CK (hi:∀a b,ρ a=ρ b→a=b) {V W:World} (h:WR ρ V W) (b:Nat) (o:Obj) (hp:∀c t,o≠ .pending c t):
 Out ρ V W {V with heap:=V.heap.setIfInBounds b o} {W with heap:=W.heap.setIfInBounds (ρ b) (lM ρ o)}:=by
 refine⟨⟨fun x=>?_,fun x c t hx=>?_,h.os⟩,by simp,rfl,rfl,rfl,rfl,fun c hc hb=>?_,by simp,Nat.le_refl _,rfl,fun x h1 h2=>?_,rfl⟩
 ·by_cases e:x=b
  ·subst e;rw[Array.getElem?_setIfInBounds_self,Array.getElem?_setIfInBounds_self];have:=h.eq x;by_cases hx:x<V.heap.size
   ·have hw:ρ x<W.heap.size:=by have e0:V.heap[x]? =some V.heap[x]:=Array.getElem?_eq_getElem hx;rw[e0]at this;exact(Array.getElem?_eq_some_iff.1 this).1
    simp[hx,hw]
   ·have hw:¬ρ x<W.heap.size:=by have e0:V.heap[x]? =none:=Array.getElem?_eq_none (by omega);rw[e0]at this;simp only[Option.map_none,Array.getElem?_eq_none_iff]at this;omega
    simp[hx,hw]
  ·rw[Array.getElem?_setIfInBounds_ne (fun e'=>e e'.symm),Array.getElem?_setIfInBounds_ne (fun e'=>e (hi _ _ e').symm)];exact h.eq x
 ·by_cases e:x=b
  ·subst e;rw[Array.getElem?_setIfInBounds_self]at hx;split at hx
   ·exact hp c t (by simpa using hx)
   ·cases hx
  ·rw[Array.getElem?_setIfInBounds_ne (fun e'=>e e'.symm)]at hx;exact h.kg x c t hx
 ·by_cases e:ρ b=c
  ·rcases Nat.lt_or_ge b V.heap.size with hlt|hge
   ·exact absurd e (hb b hlt)
   ·have:=h.eq b;have e0:V.heap[b]? =none:=Array.getElem?_eq_none hge;rw[e0]at this;simp only[Option.map_none,Array.getElem?_eq_none_iff]at this;omega
  ·simp only[Array.getElem?_setIfInBounds_ne e]
 ·simp at h2;omega
theorem modify_eq (h:Array Obj) (b:Nat) (f:Obj→Obj):h.modify b f=match h[b]? with|some o=>h.setIfInBounds b (f o)|none=>h:=by
 apply Array.ext_getElem?;intro i;rw[Array.getElem?_modify];cases hb:h[b]? with
 |none=>
  simp only;by_cases e:b=i
  ·subst e;simp[hb]
  ·simp[e]
 |some o=>
  simp only;by_cases e:b=i
  ·subst e;obtain⟨hlt,rfl⟩:=Array.getElem?_eq_some_iff.1 hb;simp[hlt]
  ·simp[e,Array.getElem?_setIfInBounds_ne e]
theorem zg (hi:∀a b,ρ a=ρ b→a=b) {V W:World} (h:WR ρ V W) (b:Nat) (f f':Obj→Obj) (hf:∀o,f' (lM ρ o)=lM ρ (f o)) (hp:∀o c t,f o= .pending c t→∃c' t',o= .pending c' t'):
 Out ρ V W {V with heap:=V.heap.modify b f} {W with heap:=W.heap.modify (ρ b) f'}:=by
 rw[modify_eq,modify_eq,h.eq b];cases hb:V.heap[b]? with
 |none=>exact .refl h
 |some o=>
  simp only[Option.map_some,hf];exact CK hi h b (f o) fun c t e=>by obtain⟨c',t',rfl⟩:=hp o c t e;exact h.kg b c' t' hb
theorem EU (hi:∀a b,ρ a=ρ b→a=b) {V W:World} (h:WR ρ V W) (a:Addr) (v:Value):Out ρ V W (V.setCell a v) (W.setCell (bW ρ a) (mv ρ v)):=by
 obtain⟨ab,ao,as⟩:=a;rw[show bW ρ ⟨ab,ao,as⟩=⟨ρ ab,ao,as⟩ from rfl];refine zg hi h ab _ _ (fun o=>?_) (fun o c t e=>?_)
 ·cases o<;>simp[lM];split<;>simp
 ·cases o<;>simp at e ⊢
theorem Ie (hi:∀a b,ρ a=ρ b→a=b) {V W:World} (h:WR ρ V W) (a:Addr) (n:Nat):Out ρ V W (V.freeze a n) (W.freeze (bW ρ a) n):=by
 unfold World.freeze;by_cases hn:n=0
 ·simp only[hn, ↓reduceIte];exact .refl h
 simp only[hn, ↓reduceIte];obtain⟨ab,ao,as⟩:=a;rw[show bW ρ ⟨ab,ao,as⟩=⟨ρ ab,ao,as⟩ from rfl];refine zg hi h ab _ _ (fun o=>?_) (fun o c t e=>?_)
 ·cases o<;>simp[lM]
 ·cases o<;>simp at e ⊢
theorem O5 {V W:World} (h:WR ρ V W) (hi:∀a b,ρ a=ρ b→a=b) (o:Obj) (hp:∀c t,o≠ .pending c t) (hρ:ρ V.heap.size=W.heap.size):
 Out ρ V W {V with heap:=V.heap.push o} {W with heap:=W.heap.push (lM ρ o)}:=by
 have old:∀b,b≠V.heap.size→ρ b≠W.heap.size:=fun b hb e=>hb (hi _ _ (e.trans hρ.symm));refine⟨⟨fun x=>?_,fun x c t hx=>?_,h.os⟩,by simp;omega,rfl,rfl,rfl,rfl,fun c hc hb=>?_,by simp,Nat.le_refl _,rfl,fun x h1 h2=>?_,rfl⟩
 ·by_cases e:x=V.heap.size
  ·subst e;rw[hρ];simp
  ·simp only[Array.getElem?_push,e,old x e, ↓reduceIte];exact h.eq x
 ·simp only[Array.getElem?_push]at hx;split at hx
  ·exact hp c t (by simpa using hx)
  ·exact h.kg x c t hx
 ·simp only[Array.getElem?_push];rw[if_neg (by omega)]
 ·simp only[Array.size_push]at h2;have:x=V.heap.size:=by omega
  subst this;omega
end Go.Ren
namespace Go.Ren
variable {P:Program} {ρ:Nat→Nat}
theorem ze {V W:World} (h:WR ρ V W) (a:Addr) (what:String):Ku (V.noCell a what):=by
 unfold World.noCell;split
 ·rename_i c t hb;exact absurd hb (h.kg _ _ _)
 ·trivial
 ·trivial
theorem G7 {V W:World} (h:WR ρ V W) {a:Addr} {b:Bool} {v:Value} {l:List Addr} (hf:V.farLoad P a b= .ok (v,l)):
 W.farLoad P (bW ρ a) b= .ok (mv ρ v,l.map (bW ρ))∧∀x∈l,x.block<V.heap.size:=by
 unfold World.farLoad at hf ⊢;split at hf
 ·rename_i at_ u hb;have hW:=h.heap _ _ hb;simp only[lM]at hW;rw[show(bW ρ a).block=ρ a.block from rfl,hW];split at hf
  ·rename_i r hr;cases hf;obtain⟨h1,h2⟩:=Gd h hr;exact⟨by simp only[h1],fun x hx=>(h2 x hx).1▸(h2 x hx).2⟩
  ·cases hf
 ·cases hf
theorem Ep {V W:World} (h:WR ρ V W) {a:Addr} {b:Bool} {e:Halt} (hf:V.farLoad P a b= .error e):Ku e:=by
 unfold World.farLoad at hf;split at hf
 ·split at hf
  ·cases hf
  ·cases hf;trivial
 ·cases hf;exact ze h _ _
theorem Cs {V W:World} (h:WR ρ V W) {a:Addr} {v:Value} {b:Bool} {e:Halt} (hf:V.farStore P a v b= .error e):Ku e:=by
 unfold World.farStore at hf;split at hf
 ·split at hf
  ·cases hf
  ·cases hf;trivial
 ·cases hf;exact ze h _ _
theorem Er (hi:∀a b,ρ a=ρ b→a=b) {V W V':World} (h:WR ρ V W) {a:Addr} {v:Value} {b:Bool} {l:List Addr} (hf:V.farStore P a v b= .ok (V',l)):
 ∃W',W.farStore P (bW ρ a) (mv ρ v) b= .ok (W',l.map (bW ρ))∧Out ρ V W V' W'∧∀x∈l,x.block<V'.heap.size:=by
 unfold World.farStore at hf ⊢;split at hf
 ·rename_i at_ u hb;have hW:=h.heap _ _ hb;simp only[lM]at hW;rw[show(bW ρ a).block=ρ a.block from rfl,hW];split at hf
  ·rename_i r hr;cases hf;obtain⟨c,e,f,h1,c',h2,rfl,h4,h5⟩:=Dv h hr;have ho:=CK hi h at_.block (.cells c' e f) (fun _ _ x=>by cases x);refine⟨_,by simp only[h4,lM],ho,fun x hx=>?_⟩;rw[h5 x hx];have:=(Array.getElem?_eq_some_iff.1 h1).1;simpa using this
  ·cases hf
 ·cases hf
theorem Dm (w:World):w.sys .env=(.strings w.os.env,w):=by unfold World.sys;simp only[Kernel.perform,Kernel.lengthOf,Kernel.named,Kernel.ofKernel,Kernel.stamps,Kernel.each,Kernel.env,pure,bind,Ask.bind];rfl
theorem SR.runT (hi:∀a b,ρ a=ρ b→a=b) {α β:Type} {Q:α→β→Prop} {s:Sem α} {s':Sem β} (h:SR P ρ Q s s'):∀(V W:World) (es es':Array Event),WR ρ V W→
 (∀i,V.heap.size+i<(world (s.runT P V es).1).heap.size→ρ (V.heap.size+i)=W.heap.size+i)→
 (∀i,V.drawn+i<(world (s.runT P V es).1).drawn→V.tape (V.drawn+i)=W.tape (W.drawn+i))→
 ¬GM (s.runT P V es).1→Rn ρ Q V W es es' (s.runT P V es) (s'.runT P W es'):=by
 induction h with
 |pure h=>intro V W es es' hw _ _ _;exact .still hw rfl rfl h
 | @load m a k k' _ ih=>
   intro V W es es' hw hρ eY hb;simp only[Sem.runT]at hρ eY hb ⊢;have hc:=JP hw a;cases hv:V.cell? a with
   |some v=>
    rw[hv]at hc;simp only[hv,hc,Option.map_some]at hρ eY hb ⊢;have:=ih v V W (es.push ⟨.cell a,false,m== .atomic⟩) (es'.push ⟨.cell (bW ρ a),false,m== .atomic⟩) hw hρ eY hb;refine Rn.step (d0:=#[⟨.cell a,false,m== .atomic⟩]) (.refl hw) ?_ (by simpa[lK,iq]using this);intro e he;simp at he;subst he;refine .inl ?_;unfold World.cell? at hv;split at hv
    ·rename_i hb';exact(Array.getElem?_eq_some_iff.1 hb').1
    ·cases hv
   |none=>
    rw[hv]at hc;simp only[hv,hc,Option.map_none]at hρ eY hb ⊢;cases hf:V.farLoad P a (m== .atomic)with
    |error e=>simp only[hf]at hb;exact absurd (Ep hw hf) hb
    |ok r=>
     obtain⟨v,l⟩:=r;obtain⟨h1,h2⟩:=G7 hw hf;simp only[hf,h1]at hρ eY hb ⊢;have:=ih v V W (es++l.toArray.map (⟨.cell ·,false,m== .atomic⟩)) (es'++(l.map (bW ρ)).toArray.map (⟨.cell ·,false,m== .atomic⟩)) hw hρ eY hb
     refine Rn.step (d0:=l.toArray.map (⟨.cell ·,false,m== .atomic⟩)) (.refl hw) ?_ (by
      have e:(l.map (bW ρ)).toArray.map (fun x=>(⟨.cell x,false,m== .atomic⟩:Event))=(l.toArray.map (fun x=>(⟨.cell x,false,m== .atomic⟩:Event))).map (lK ρ):=by simp[lK,iq,Function.comp_def]
      rw[←e];exact this)
     intro e he;obtain⟨x,hx,rfl⟩:=Array.mem_map.1 he;exact .inl (h2 x (by simpa using hx))
 | @store m a v k k' _ ih=>
   intro V W es es' hw hρ eY hb;cases ho:one v with
   |false=>rw[gJ ho]at hb;exact absurd trivial hb
   |true=>
    have ho':one (mv ρ v)=true:=by rw[Vh,ho]
    rw[jw ho]at hρ eY hb ⊢;rw[jw ho'];have hc:=JP hw a;cases hv:V.cell? a with
    |some x=>
     rw[hv]at hc;simp only[hv,hc,Option.map_some,Bd hw]at hρ eY hb ⊢;cases hz:V.frozen? a with
     |true=>simp only[hz, ↓reduceIte]at hb;exact absurd trivial hb
     |false=>
      simp only[hz,Bool.false_eq_true, ↓reduceIte]at hρ eY hb ⊢;have oc:=EU hi hw a v;have:=ih (V.setCell a v) (W.setCell (bW ρ a) (mv ρ v)) (es.push ⟨.cell a,true,m== .atomic⟩) (es'.push ⟨.cell (bW ρ a),true,m== .atomic⟩) oc.wr
       (by rw[lX,lX];exact hρ) eY hb
      refine Rn.step (d0:=#[⟨.cell a,true,m== .atomic⟩]) oc ?_ (by simpa[lK,iq]using this);intro e he;simp at he;subst he;refine .inl ?_;unfold World.cell? at hv;split at hv
      ·rename_i hb';show a.block<_;rw[lX];exact(Array.getElem?_eq_some_iff.1 hb').1
      ·cases hv
    |none=>
     rw[hv]at hc;simp only[hv,hc,Option.map_none]at hρ eY hb ⊢;cases hf:V.farStore P a v (m== .atomic)with
     |error e=>simp only[hf]at hb;exact absurd (Cs hw hf) hb
     |ok r=>
      obtain⟨V1,l⟩:=r;obtain⟨W1,h1,oc,h2⟩:=Er hi hw hf;obtain⟨k1,k2⟩:=mJ hf;have os:=oc.size;have od:=oc.drawn;simp only[hf,h1]at hρ eY hb ⊢;have:=ih V1 W1 (es++l.toArray.map (⟨.cell ·,true,m== .atomic⟩)) (es'++(l.map (bW ρ)).toArray.map (⟨.cell ·,true,m== .atomic⟩)) oc.wr
       (by rw[k1,show W1.heap.size=W.heap.size by omega];exact hρ) (by rw[k2,show W1.drawn=W.drawn by omega,oc.tape,oc.Gf];exact eY) hb
      refine Rn.step (d0:=l.toArray.map (⟨.cell ·,true,m== .atomic⟩)) oc ?_ (by
       have e:(l.map (bW ρ)).toArray.map (fun x=>(⟨.cell x,true,m== .atomic⟩:Event))=(l.toArray.map (fun x=>(⟨.cell x,true,m== .atomic⟩:Event))).map (lK ρ):=by simp[lK,iq,Function.comp_def]
       rw[←e];exact this)
      intro e he;obtain⟨x,hx,rfl⟩:=Array.mem_map.1 he;exact .inl (h2 x (by simpa using hx))
 | @new o k k' hp _ ih=>
   intro V W es es' hw hρ eY hb;simp only[Sem.runT]at hρ eY hb ⊢;have hm:=Br (P:=P) (k V.heap.size) {V with heap:=V.heap.push o} es;simp only[Array.size_push]at hm;have e0:ρ V.heap.size=W.heap.size:=by simpa using hρ 0 (by omega)
   have oc:=O5 hw hi o hp e0;rw[←e0];refine Rn.step (d0:=#[]) oc (by simp) ?_;simp only[Array.append_empty,Array.map_empty];refine ih V.heap.size _ _ es es' oc.wr (fun i hlt=>?_) eY hb;simp only[Array.size_push]at hlt ⊢;have:=hρ (i+1) (by omega);rw[show V.heap.size+1+i=V.heap.size+(i+1) by omega,this];omega
 | @shape r k k' _ ih=>intro V W es es' hw hρ eY hb;simp only[Sem.runT,Pt hw]at hρ eY hb ⊢;exact ih _ V W es es' hw hρ eY hb
 | @freeze a n k k' _ ih=>
   intro V W es es' hw hρ eY hb;simp only[Sem.runT]at hρ eY hb ⊢;have oc:=Ie hi hw a n;refine Rn.step (d0:=#[]) oc (by simp) ?_;simp only[Array.append_empty,Array.map_empty];refine ih _ _ es es' oc.wr ?_ ?_ hb
   ·rw[(jC V a n).1,(jC W _ n).1];exact hρ
   ·rw[(jC V a n).2,(jC W _ n).2,oc.tape,oc.Gf];exact eY
 | @frozen a k k' _ ih=>intro V W es es' hw hρ eY hb;simp only[Sem.runT,Bd hw]at hρ eY hb ⊢;exact ih _ V W es es' hw hρ eY hb
 | @getObj r k k' _ ih=>
   intro V W es es' hw hρ eY hb;simp only[Sem.runT,hw.eq]at hρ eY hb ⊢;cases ho:V.heap[r]? with
   |none=>simp only[ho]at hb;exact absurd trivial hb
   |some o=>
    simp only[ho,Option.map_some]at hρ eY hb ⊢;have hr:=(Array.getElem?_eq_some_iff.1 ho).1;have key:∀(c:Bool),(∀i,V.heap.size+i<(world ((k o).runT P V (es.push ⟨.obj r,false,c⟩)).1).heap.size→ρ (V.heap.size+i)=W.heap.size+i)→
     (∀i,V.drawn+i<(world ((k o).runT P V (es.push ⟨.obj r,false,c⟩)).1).drawn→V.tape (V.drawn+i)=W.tape (W.drawn+i))→¬GM ((k o).runT P V (es.push ⟨.obj r,false,c⟩)).1→
     Rn ρ Q V W es es' ((k o).runT P V (es.push ⟨.obj r,false,c⟩)) ((k' (lM ρ o)).runT P W (es'.push ⟨.obj (ρ r),false,c⟩)):=by
     intro c h1 h2 h3;have:=ih o V W (es.push ⟨.obj r,false,c⟩) (es'.push ⟨.obj (ρ r),false,c⟩) hw h1 h2 h3;refine Rn.step (d0:=#[⟨.obj r,false,c⟩]) (.refl hw) ?_ (by simpa[lK,iq]using this);intro e he;simp at he;subst he;exact .inl hr
    cases o with
    |cells=>exact absurd trivial hb
    |_=>exact key _ hρ eY hb
 | @setObj r o k k' hp _ ih=>
   intro V W es es' hw hρ eY hb;simp only[Sem.runT,hw.eq]at hρ eY hb ⊢;have hch:(lM ρ o).isChan=o.isChan:=by cases o<;>rfl
   cases ho:V.heap[r]? with
   |none=>simp only[ho]at hb;exact absurd trivial hb
   |some oo=>
    simp only[ho,Option.map_some,hch]at hρ eY hb ⊢;have hr:=(Array.getElem?_eq_some_iff.1 ho).1;have oc:=CK hi hw r o hp;have key:(∀i,V.heap.size+i<(world (k.runT P {V with heap:=V.heap.setIfInBounds r o} (es.push ⟨.obj r,true,o.isChan⟩)).1).heap.size→ρ (V.heap.size+i)=W.heap.size+i)→
     (∀i,V.drawn+i<(world (k.runT P {V with heap:=V.heap.setIfInBounds r o} (es.push ⟨.obj r,true,o.isChan⟩)).1).drawn→V.tape (V.drawn+i)=W.tape (W.drawn+i))→¬GM (k.runT P {V with heap:=V.heap.setIfInBounds r o} (es.push ⟨.obj r,true,o.isChan⟩)).1→
     Rn ρ Q V W es es' (k.runT P {V with heap:=V.heap.setIfInBounds r o} (es.push ⟨.obj r,true,o.isChan⟩)) (k'.runT P {W with heap:=W.heap.setIfInBounds (ρ r) (lM ρ o)} (es'.push ⟨.obj (ρ r),true,o.isChan⟩)):=by
     intro h1 h2 h3;have:=ih _ _ (es.push ⟨.obj r,true,o.isChan⟩) (es'.push ⟨.obj (ρ r),true,o.isChan⟩) oc.wr (by simpa using h1) h2 h3;refine Rn.step (d0:=#[⟨.obj r,true,o.isChan⟩]) oc ?_ (by simpa[lK,iq]using this);intro e he;simp at he;subst he;refine .inl ?_;show r<_;simpa using hr
    cases oo with
    |cells=>exact absurd trivial hb
    |_=>exact key hρ eY hb
 | @env k k' hp _ ih=>intro V W es es' hw hρ eY hb;have hV:=Dm V;have hW:=Dm W;simp only[Sem.runT,hV,hW,hw.os]at hρ eY hb ⊢;have:=ih (.strings V.os.env) V W (es.push ⟨.output,true,false⟩) (es'.push ⟨.output,true,false⟩) hw hρ eY hb;refine Rn.step (d0:=#[⟨.output,true,false⟩]) (.refl hw) ?_ (by simpa[lK,iq]using this);intro e he;simp at he;subst he;exact .inr ⟨rfl,hp _ _ _⟩
 | @choose q k k' _ ih=>
   intro V W es es' hw hρ eY hb;simp only[Sem.runT]at hρ eY hb ⊢;cases hq:q.forced with
   |true=>simp only[hq, ↓reduceIte]at hρ eY hb ⊢;exact ih _ V W es es' hw hρ eY hb
   |false=>
    simp only[hq,Bool.false_eq_true, ↓reduceIte]at hρ eY hb ⊢;have hm:=Br (P:=P) (k (q.cut (V.tape V.drawn q))) {V with drawn:=V.drawn+1} es;have e0:V.tape V.drawn=W.tape W.drawn:=by simpa using eY 0 (by simp only at hm;omega)
    rw[←e0];have oc:Out ρ V W {V with drawn:=V.drawn+1} {W with drawn:=W.drawn+1}:=
     ⟨⟨hw.eq,hw.kg,hw.os⟩,rfl,by simp;omega,rfl,rfl,rfl,fun _ _ _=>rfl,Nat.le_refl _,by simp,rfl,fun x h1 h2=>by simp at h2;omega,rfl⟩
    refine Rn.step (d0:=#[]) oc (by simp) ?_;simp only[Array.append_empty,Array.map_empty];refine ih _ _ _ es es' oc.wr hρ (fun i hlt=>?_) hb;simp only at hlt ⊢;have:=eY (i+1) (by omega);rw[show V.drawn+1+i=V.drawn+(i+1) by omega,this,show W.drawn+1+i=W.drawn+(i+1) by omega]
 |program _ ih=>intro V W es es' hw hρ eY hb;simp only[Sem.runT]at hρ eY hb ⊢;exact ih V W es es' hw hρ eY hb
 | @mark m k k' hm _ ih=>intro V W es es' hw hρ eY hb;simp only[Sem.runT]at hρ eY hb ⊢;have:=ih V W (es.push ⟨.mark m,false,true⟩) (es'.push ⟨.mark (We ρ m),false,true⟩) hw hρ eY hb;refine Rn.step (d0:=#[⟨.mark m,false,true⟩]) (.refl hw) ?_ (by simpa[lK,iq]using this);intro e he;simp at he;subst he;exact .inl hm
 |halt hh=>intro V W es es' hw _ _ _;exact .still hw rfl rfl ⟨rfl,hh⟩
 |dead h=>intro V W es es' hw _ _ hb;exact absurd h hb
end Go.Ren
