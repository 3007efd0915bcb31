import Derived.Test.YtheibfffilomcabGreatDoorR5U
set_option linter.all false
namespace Go.Ren
set_option linter.unusedSimpArgs false
set_option linter.unusedVariables false
structure OkP (P:Program) (ρ:Nat→Nat):Prop where
 inj:∀a b,ρ a=ρ b→a=b
 zero:∀t i v,P.info? t=some i→i.zero=some v→mv ρ v=v
abbrev SV (P:Program) (ρ:Nat→Nat) (s s':Sem Value):Prop:=SR P ρ (fun v v'=>v'=mv ρ v) s s'
abbrev SE (P:Program) (ρ:Nat→Nat) {α:Type} (s s':Sem α):Prop:=SR P ρ Eq s s'
variable {P:Program} {ρ:Nat→Nat}
theorem SR.bnd {α β γ δ:Type} {Q:α→β→Prop} {T:γ→δ→Prop} {s:Sem α} {s':Sem β} {f:α→Sem γ} {f':β→Sem δ}
 (h:SR P ρ Q s s') (hf:∀a b,Q a b→SR P ρ T (f a) (f' b)):SR P ρ T (s>>= f) (s'>>= f'):=SR.bind h hf
theorem SR.az {α γ δ:Type} {T:γ→δ→Prop} {s s':Sem α} {f:α→Sem γ} {f':α→Sem δ}
 (h:SE P ρ s s') (hf:∀a,SR P ρ T (f a) (f' a)):SR P ρ T (s>>= f) (s'>>= f'):=SR.bind h fun a b e=>e▸hf a
theorem SR.kZ {γ δ:Type} {T:γ→δ→Prop} {s s':Sem Value} {f:Value→Sem γ} {f':Value→Sem δ}
 (h:SV P ρ s s') (hf:∀a,SR P ρ T (f a) (f' (mv ρ a))):SR P ρ T (s>>= f) (s'>>= f'):=SR.bind h fun a b e=>by rw[e];exact hf a
theorem SR.ite {α β:Type} {Q:α→β→Prop} {c:Prop} {_:Decidable c} {A B:Sem α} {A' B':Sem β} (h1:SR P ρ Q A A') (h2:SR P ρ Q B B'):SR P ρ Q (if c then A else B) (if c then A' else B'):=by
 split
 ·exact h1
 ·exact h2
theorem af {α β:Type} {Q:α→β→Prop} {a:α} {b:β} (h:Q a b):SR P ρ Q (Pure.pure a:Sem α) (Pure.pure b:Sem β):=SR.pure h
theorem ae {α β:Type} {Q:α→β→Prop} {why:String} {s:Sem β}:SR P ρ Q (stuck why:Sem α) s:=.dead trivial
theorem fI {α β γ:Type} {Q:γ→β→Prop} {why:String} {f:α→Sem γ} {s:Sem β}:SR P ρ Q ((stuck why:Sem α)>>= f) s:=.dead trivial
theorem aB {α β:Type} {Q:α→β→Prop} {u:Unsupported} {s:Sem β} (h:∀g,u≠ .initOrder g):SR P ρ Q (unsupported u:Sem α) s:=.dead (by cases u<;>first|trivial|exact absurd rfl (h _))
theorem dO {α β γ:Type} {Q:γ→β→Prop} {u:Unsupported} {f:α→Sem γ} {s:Sem β} (h:∀g,u≠ .initOrder g):SR P ρ Q ((unsupported u:Sem α)>>= f) s:=.dead (by cases u<;>first|trivial|exact absurd rfl (h _))
theorem f_:SE P ρ program program:=.program (.pure rfl)
theorem eH (q:Question):SE P ρ (choose q) (choose q):=.choose fun _=>.pure rfl
theorem xx (t:TypeId):SR P ρ (fun i i'=>i'=i∧P.info? t=some i) (typeInfo t) (typeInfo t):=by
 refine SR.program ?_;show SR P ρ _ (Sem.bind (.pure P) _) (Sem.bind (.pure P) _);simp only[Sem.bind];split
 ·rename_i i h;exact .pure ⟨rfl,h⟩
 ·exact .dead trivial
theorem aF (t:TypeId):SE P ρ (underlying t) (underlying t):=by
 refine SR.program ?_;show SR P ρ _ (Sem.bind (.pure P) _) (Sem.bind (.pure P) _);simp only[Sem.bind];split
 ·exact .pure rfl
 ·exact .dead trivial
theorem dU (t:TypeId):SE P ρ (typeInfo t) (typeInfo t):=(xx t).mono fun _ _ h=>h.1.symm
theorem dm (t:TypeId):SE P ρ (sizeOf t) (sizeOf t):=SR.az (dU t) fun _=>af rfl
theorem Fw (t:TypeId):SE P ρ (isAgg t) (isAgg t):=by refine SR.az (aF t) fun d=>?_;cases d<;>exact af rfl
theorem vW (t:TypeId):SE P ρ (elemOf t) (elemOf t):=by refine SR.az (aF t) fun d=>?_;cases d<;>first|exact af rfl|exact ae
theorem qc (H:OkP P ρ) (t:TypeId):SR P ρ (fun v v'=>v'=v∧mv ρ v=v) (zeroValue t) (zeroValue t):=by
 refine SR.bnd (xx t) fun i i' hi=>?_;obtain⟨rfl,hi⟩:=hi;split
 ·rename_i v hv;exact af ⟨rfl,H.zero _ _ _ hi hv⟩
 ·exact aB (by simp)
theorem jN (a:Addr) (n:Nat):(bW ρ a).add n=bW ρ (a.add n):=by unfold Addr.add;split<;>rfl
theorem yc (a:Addr) (m:Mode):SV P ρ (load a m) (load (bW ρ a) m):=.load fun _=>.pure rfl
theorem PI (a:Addr) (v:Value) (m:Mode):SE P ρ (store a v m) (store (bW ρ a) (mv ρ v) m):=.store (.pure rfl)
theorem wC (a:Addr):∀(n i:Nat) (acc:Array Value),SR P ρ (fun c c'=>c'=c.map (mv ρ)) (loadCellsFrom a i n acc) (loadCellsFrom (bW ρ a) i n (acc.map (mv ρ))):=by
 intro n;induction n with
 |zero=>intro i acc;exact af rfl
 |succ n ih=>
  intro i acc;refine SR.kZ ?_ fun v=>?_
  ·rw[jN];exact yc _ _
  ·have:=ih (i+1) (acc.push v);simpa using this
theorem lY (a:Addr) (n:Nat):SR P ρ (fun c c'=>c'=c.map (mv ρ)) (loadCells a n) (loadCells (bW ρ a) n):=by have:=wC (P:=P) (ρ:=ρ) a n 0 #[];simpa[loadCells]using this
theorem kJ (a:Addr):∀(vs:List Value) (i:Nat),SE P ρ (storeCells a vs i) (storeCells (bW ρ a) (vs.map (mv ρ)) i):=by
 intro vs;induction vs with
 |nil=>intro i;exact af rfl
 |cons v vs ih=>intro i;refine SR.az ?_ fun _=>ih _;rw[jN];exact PI _ _ _
theorem zH (t:TypeId) (a:Addr):SV P ρ (loadVar t a) (loadVar t (bW ρ a)):=by
 refine SR.az (Fw t) fun b=>?_;cases b with
 |true=>refine SR.az (dm t) fun n=>?_;refine SR.bnd (lY a n) fun c c' e=>?_;exact af (by rw[e];simp[mv])
 |false=>exact yc _ _
theorem iO (v:Value):(mv ρ v).cells=v.cells.map (mv ρ):=by cases v<;>simp[mv,Value.cells]
theorem FQ (t:TypeId) (a:Addr) (v:Value):SE P ρ (storeVar t a v) (storeVar t (bW ρ a) (mv ρ v)):=by
 unfold storeVar;refine SR.az (dm t) fun n=>?_;rw[iO,Array.size_map];by_cases h:v.cells.size≠n
 ·simp only[h, ↓reduceIte,not_false_eq_true,ne_eq];exact fI
 ·simp only[h, ↓reduceIte,Array.toList_map,ne_eq,not_true_eq_false];exact kJ _ _ _
theorem o8 (o:Obj) (hp:∀c t,o≠ .pending c t):SR P ρ (fun r r'=>r'=ρ r) (newObj o) (newObj (lM ρ o)):=.new hp fun _=>.pure rfl
theorem mq (t:TypeId) (c:Array Value):SR P ρ (fun a a'=>a'=bW ρ a) (newRow t c) (newRow t (c.map (mv ρ))):=by refine SR.bnd (o8 (.cells c t) (by simp)) fun r r' e=>?_;exact af (by rw[e];rfl)
theorem wD (t:TypeId) (v:Value):SR P ρ (fun a a'=>a'=bW ρ a) (newVar t v) (newVar t (mv ρ v)):=by unfold newVar;rw[iO];exact mq t _
theorem jS (t:TypeId) (cs:Array Value) (off:Nat):SV P ρ (part t cs off) (part t (cs.map (mv ρ)) off):=by
 refine SR.az (Fw t) fun b=>?_;cases b with
 |true=>refine SR.az (dm t) fun n=>?_;exact af (by simp[mv])
 |false=>
  simp only[Bool.false_eq_true, ↓reduceIte,Array.getElem?_map];cases cs[off]? with
  |none=>exact ae
  |some v=>exact af rfl
theorem tT {α β:Type} {Q:α→β→Prop} (v:Value):SR P ρ Q (goPanic v:Sem α) (goPanic (mv ρ v):Sem β):=.halt trivial
theorem xA {α β:Type} {Q:α→β→Prop} (v:Value) (h:mv ρ v=v):SR P ρ Q (goPanic v:Sem α) (goPanic v:Sem β):=by have:=tT (P:=P) (ρ:=ρ) (Q:=Q) v;rwa[h]at this
def X5:RuntimeError→Bool
 | .bounds .. =>true
 | .error _=>true
 | .plain _=>true
 | .nilDeref=>true
 |_=>false
theorem b_ {α β:Type} {Q:α→β→Prop} (e:RuntimeError) (h:X5 e=true):SR P ρ Q (runtimePanic e:Sem α) (runtimePanic e:Sem β):=by
 refine SR.az f_ fun p=>?_;cases e<;>first|cases h|skip
 all_goals exact xA _ (by simp[mv,strVal])
theorem iV {α β:Type} {Q:α→β→Prop} (k:IntKind) (x y:Int) (c:BoundsCode):SR P ρ Q (boundsPanic k x y c:Sem α) (boundsPanic k x y c:Sem β):=by
 unfold boundsPanic;have key:∀b,SR P ρ Q (runtimePanic (.bounds (IntKind.i64.wrap x) y b c):Sem α) (runtimePanic (.bounds (IntKind.i64.wrap x) y b c):Sem β):=fun b=>b_ _ rfl;split
 ·refine SR.az (SR.az (eH _) fun n=>af rfl) fun n=>key _
 ·exact SR.az (af rfl) fun n=>key _
theorem p_ (v:Value):SE P ρ (asIntOf v) (asIntOf (mv ρ v)):=by
 cases v<;>simp only[mv,asIntOf]<;>first|exact af rfl|exact ae|skip
 rename_i a;cases a<;>first|exact ae|exact aB (by simp)
theorem rA (v:Value):SE P ρ (asInt v) (asInt (mv ρ v)):=SR.az (p_ v) fun _=>af rfl
theorem rU (v:Value):SE P ρ (asBool v) (asBool (mv ρ v)):=by cases v<;>simp only[mv,asBool]<;>first|exact af rfl|exact ae
theorem PG (v:Value):SR P ρ (fun c c'=>c'=c.map (mv ρ)) (asAgg v) (asAgg (mv ρ v)):=by cases v<;>simp only[mv,asAgg]<;>first|exact af rfl|exact ae
theorem BH (v:Value):SR P ρ (fun a a'=>a'=bW ρ a) (asAddr v) (asAddr (mv ρ v)):=by
 cases v<;>simp only[mv,asAddr]<;>first|exact ae|skip
 rename_i a;cases a
 ·exact b_ _ rfl
 ·exact af rfl
theorem kW (v:Value):SR P ρ (fun a a'=>a'=bW ρ a) (Instr.sureAddr v) (Instr.sureAddr (mv ρ v)):=by
 cases v<;>simp only[mv,Instr.sureAddr]<;>first|exact ae|skip
 rename_i a;cases a
 ·exact ae
 ·exact af rfl
end Go.Ren
namespace Go.Ren
set_option linter.unusedSimpArgs false
set_option linter.unusedVariables false
variable {P:Program} {ρ:Nat→Nat}
theorem fT (r:Nat):SE P ρ (shape r) (shape (ρ r)):=.shape fun _=>.pure rfl
theorem oV (a:Addr):SE P ρ (frozen a) (frozen (bW ρ a)):=.frozen fun _=>.pure rfl
theorem Bw (a:Addr) (n:Nat):SE P ρ (freeze a n) (freeze (bW ρ a) n):=.freeze (.pure rfl)
theorem mh (r:Nat):SR P ρ (fun o o'=>o'=lM ρ o) (getObj r) (getObj (ρ r)):=.getObj fun _=>.pure rfl
theorem CY (m:Mark) (h:xn m=true):SE P ρ (mark m) (mark (We ρ m)):=.mark h (.pure rfl)
theorem zz (n:Nat):SE P ρ (askRoom n) (askRoom n):=by
 unfold askRoom;split
 ·exact CY .noRoom rfl
 ·exact af rfl
theorem rW (r:Nat):SR P ρ (fun x y=>y=x.map fun z=>(bW ρ z.1,z.2)) (viewAt r) (viewAt (ρ r)):=by
 unfold viewAt;refine SR.az (fT r) fun s=>?_;cases s with
 |some x=>exact af rfl
 |none=>refine SR.bnd (mh r) fun o o' e=>?_;subst e;cases o<;>exact af rfl
theorem xB (r:Nat):SR P ρ (fun x y=>y=x.map fun z=>(bW ρ z.1,z.2)) (numberAt r) (numberAt (ρ r)):=by
 unfold numberAt;refine SR.az (fT r) fun s=>?_;cases s with
 |some x=>exact af rfl
 |none=>refine SR.bnd (mh r) fun o o' e=>?_;subst e;cases o<;>exact af rfl
theorem Ir (r:Nat):SE P ρ (cellsIn r) (cellsIn (ρ r)):=by
 unfold cellsIn;refine SR.az (fT r) fun s=>?_;cases s with
 |some x=>exact af rfl
 |none=>refine SR.bnd (mh r) fun o o' e=>?_;subst e;cases o<;>first|exact af rfl|exact af (by simp)
theorem bz (a:Addr):SR P ρ (fun x y=>y=(bW ρ x.1,x.2)) (behindNumber a) (behindNumber (bW ρ a)):=by unfold behindNumber;refine SR.bnd (xB a.block) fun x y e=>?_;subst e;cases x<;>exact af rfl
theorem vX (a:Addr):SE P ρ (noView a) (noView (bW ρ a)):=by
 unfold noView;refine SR.bnd (rW a.block) fun x y e=>?_;subst e;cases x with
 |none=>exact af rfl
 |some x=>exact aB (by simp)
theorem oW (a:Addr):SE P ρ (markStringish a) (markStringish (bW ρ a)):=by
 unfold markStringish;refine SR.az (fT a.block) fun s=>?_;cases s with
 |none=>exact af rfl
 |some x=>exact Bw {block:=a.block,off:=x.2} 1
theorem uX (a:Addr):SE P ρ (stringish a) (stringish (bW ρ a)):=by
 unfold stringish;refine SR.az (oV a) fun b=>?_;cases b with
 |true=>exact af rfl
 |false=>
  refine SR.az (fT a.block) fun s=>?_;cases s with
  |none=>exact af rfl
  |some x=>exact oV {block:=a.block,off:=x.2}
theorem Fy (a b:Addr):SE P ρ (mayBeOne a b) (mayBeOne (bW ρ a) (bW ρ b)):=by unfold mayBeOne;refine SR.az (uX a) fun x=>?_;refine SR.az (uX b) fun y=>?_;refine SR.az (SR.az (fT a.block) fun _=>af rfl) fun z=>?_;refine SR.az (SR.az (fT b.block) fun _=>af rfl) fun z'=>?_;exact af rfl
theorem yG (hi:∀a b,ρ a=ρ b→a=b) (x y:Nat):(ρ x==ρ y)=(x==y):=by rw[Bool.eq_iff_iff,beq_iff_eq,beq_iff_eq];exact⟨hi _ _,fun e=>e▸rfl⟩
theorem Ro (hi:∀a b,ρ a=ρ b→a=b) {a b:Addr} (h:bW ρ a=bW ρ b):a=b:=by obtain⟨a1,a2,a3⟩:=a;obtain⟨b1,b2,b3⟩:=b;simp only[bW,Addr.mk.injEq]at h ⊢;exact⟨hi _ _ h.1,h.2⟩
theorem qG (hi:∀a b,ρ a=ρ b→a=b) (a b:Addr):(bW ρ a==bW ρ b)=(a==b):=by rw[Bool.eq_iff_iff,beq_iff_eq,beq_iff_eq];exact⟨Ro hi,fun e=>e▸rfl⟩
theorem xw (H:OkP P ρ) (a b:Addr):SE P ρ (sameAddr a b) (sameAddr (bW ρ a) (bW ρ b)):=by unfold sameAddr;rw[show(bW ρ a).block=ρ a.block from rfl,show(bW ρ b).block=ρ b.block from rfl,yG H.inj,qG H.inj];refine SR.ite (af rfl) (SR.az (oV a) fun x=>SR.az (oV b) fun y=>?_);dsimp only;exact SR.ite (dO (by simp)) (SR.az (vX a) fun _=>SR.az (vX b) fun _=>SR.az (Fy a b) fun z=>SR.ite (SR.az (eH _) fun n=>af rfl) (af rfl))
theorem zB (H:OkP P ρ) (a b:Option Addr):SE P ρ (samePointer a b) (samePointer (a.map (bW ρ)) (b.map (bW ρ))):=by cases a<;>cases b<;>first|exact af rfl|exact xw H _ _
theorem ku (a:Addr):SE P ρ (byteOf a) (byteOf (bW ρ a)):=by
 unfold byteOf;rw[show(bW ρ a).spot=a.spot from rfl,show(bW ρ a).off=a.off from rfl,show(bW ρ a).block=ρ a.block from rfl];cases a.spot with
 |some s=>exact af rfl
 |none=>
  refine SR.az f_ fun p=>SR.az (vX a) fun _=>SR.az (fT a.block) fun s=>?_;cases s with
  |none=>exact ae
  |some x=>
   dsimp only;split
   ·exact af rfl
   ·split
    ·exact af rfl
    ·exact ae
theorem Ml (a:Addr) (c b:Nat):SR P ρ (fun x y=>y=bW ρ x) (partAt a c b) (partAt (bW ρ a) c b):=by
 unfold partAt;refine SR.az (ku a) fun x=>?_;refine SR.az (ku {block:=a.block,off:=a.off+c}) fun y=>?_;split
 ·exact af rfl
 ·exact af rfl
theorem Af (a:Addr) (f:Field):SR P ρ (fun x y=>y=bW ρ x) (fieldPlace a f) (fieldPlace (bW ρ a) f):=by
 unfold fieldPlace;refine SR.az (dm f.type) fun n=>?_;split
 ·exact Ml _ _ _
 ·exact af (by rw[jN])
theorem rC (a:Addr) (u:TypeId) (n:Nat):SE P ρ (variablesAt a u n) (variablesAt (bW ρ a) u n):=by unfold variablesAt;refine SR.az f_ fun p=>SR.az (fT a.block) fun s=>?_;cases s<;>exact af rfl
theorem CW:∀(n:Nat) (a:Addr) (acc:ByteArray),SE P ρ (loadBytes a acc n) (loadBytes (bW ρ a) acc n):=by
 intro n;induction n with
 |zero=>intro a acc;exact af rfl
 |succ n ih=>
  intro a acc;refine SR.kZ (yc a _) fun v=>?_;cases v<;>simp only[mv]<;>first|exact ae|skip
  rename_i k b;cases k<;>first|exact ae|skip
  rw[jN];exact ih _ _
end Go.Ren
