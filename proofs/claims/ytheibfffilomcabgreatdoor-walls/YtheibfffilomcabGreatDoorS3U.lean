import Derived.Test.YtheibfffilomcabGreatDoorR38U
import Derived.KernelRfl
import Derived.Test.YtheibfffilomcabGreatDoorProg
import Derived.Conc.CrowdRun
import Derived.Conc.Beside
import Derived.Test.YtheibfffilomcabGreatDoorR4U
set_option linter.all false
namespace Go.Ren
set_option linter.unusedSimpArgs false
set_option linter.unusedVariables false
set_option linter.unusedSectionVars false
variable {P:Program} {ρ:Nat→Nat} {fs:FuncId→Bool} {gs:FuncId→Tmp→Bool}
def zm:Nat→Value→Bool
 | 0,_=>false
 |n+1,.agg cs=>cs.toList.all (zm n)
 |n+1,.tuple cs=>cs.toList.all (zm n)
 |_+1,.float _ _=>true
 |_+1,.complex _ _ _=>true
 |_+1,.map none=>true
 |_+1,.chan none=>true
 |_+1,v=>CS v
theorem LJ:∀(n:Nat) (v:Value),zm n v=true→mv ρ v=v:=by
 intro n;induction n with
 |zero=>intro v h;cases h
 |succ n ih=>
  have all:∀cs:Array Value,cs.toList.all (zm n)=true→cs.map (mv ρ)=cs:=by intro cs h;rw[List.all_eq_true]at h;have:cs.map (mv ρ)=cs.map id:=Array.map_congr_left fun x hx=>ih x (h x (by simpa using hx));simpa using this
  intro v h;cases v<;>try exact vR h
  case agg cs=>simp only[mv];rw[all cs h]
  case tuple cs=>simp only[mv];rw[all cs h]
  case float=>simp[mv]
  case complex=>simp[mv]
  case map r=>cases r with
   |none=>simp[mv]
   |some r=>cases h
  case chan r=>cases r with
   |none=>simp[mv]
   |some r=>cases h
def zeros (ts:List TypeInfo):Bool:=ts.all fun i=>match i.zero with|none=>true|some v=>zm 9 v
theorem Au (h:zeros P.types.toList=true):∀t i v,P.info? t=some i→i.zero=some v→mv ρ v=v:=by
 refine Ar fun t i hi v hv=>?_;unfold zeros at h;rw[List.all_eq_true]at h
 have:=h i (by
  have:=Array.mem_of_getElem? hi
  simpa using this)
 rw[hv]at this;exact LJ 9 v this
def z_ (fs:FuncId→Bool):Code→Bool
 | .skip=>true
 | .region _ ops _=>ops.toList.all fun o=>vQ fs o.op
 | .seq a b=>z_ fs a&&z_ fs b
 | .cond c a b=>gH c&&z_ fs a&&z_ fs b
 | .block _ b=>z_ fs b
 | .loop b=>z_ fs b
 | .scope b=>z_ fs b
 | .exit _=>true
 | .label _=>true
 | .goto _=>true
 | .ret=>true
 | .refuse _=>true
 | .rangeFunc .. =>false
theorem Rv (fs:FuncId→Bool) (c:Code):z_ fs c=x8 fs c:=by induction c<;>simp_all [z_,x8]
def sU (g:Tmp→Bool):Code→Bool
 | .region _ ops _=>ops.toList.all fun o=>Vk g o
 | .seq a b=>sU g a&&sU g b
 | .cond _ a b=>sU g a&&sU g b
 | .block _ b=>sU g b
 | .loop b=>sU g b
 | .scope b=>sU g b
 | .rangeFunc .. =>false
 |_=>true
theorem O6 (g:Tmp→Bool) (c:Code):sU g c=nX g c:=by induction c<;>simp_all [sU,nX]
def Vi (fs:FuncId→Bool) (g:Tmp→Bool) (fn:Func):Bool:=
 (match fn.body with|some c=>z_ fs c&&sU g c|none=>true)&&fn.results.toList.all (LD g)&& !(fn.name== "runtime.NumGoroutine")
theorem PE {f:FuncId} {fn:Func} {c:Code} (hf:P.funcs[f]? =some fn) (hb:fn.body=some c) (hn:(fn.name== "runtime.NumGoroutine")=false) (h:fs f=true) (args:Array Value):
 SN P ρ fs (callFunc f args) (callFunc f (args.map (mv ρ))):=by
 unfold callFunc;refine nR fun _=>?_;simp only[hf,hn,hb,Option.isNone_some,Bool.false_eq_true, ↓reduceIte];exact af ⟨rfl,h⟩
theorem PG {f:FuncId} {fn:Func} {e:Array Value→Sem Value} (hf:P.funcs[f]? =some fn) (hb:fn.body=none) (hn:(fn.name== "runtime.NumGoroutine")=false) (hx:Extern.findNext fn=none) (he:Extern.find fn=some e) (args:Array Value)
 (h:SV P ρ (e args) (e (args.map (mv ρ)))):SN P ρ fs (callFunc f args) (callFunc f (args.map (mv ρ))):=by
 unfold callFunc;refine nR fun _=>?_;simp only[hf,hn,hb,Option.isNone_none,Bool.false_eq_true, ↓reduceIte];refine SR.az (C8 (.extern f) rfl) fun _=>?_;simp only[hx,he];exact SR.kZ h fun v=>af ⟨rfl,trivial⟩
theorem map_mk (f:Value→Value) (l:List Value):Array.map f ⟨l⟩=⟨l.map f⟩:=by simp
theorem RQ (args:Array Value):SV P ρ (Extern.AbiNoEscape.same args) (Extern.AbiNoEscape.same (args.map (mv ρ))):=by
 obtain⟨l⟩:=args;rw[map_mk]
 match l with
 | []=>exact ae
 | [x]=>exact af rfl
 |_::_::_=>exact ae
theorem Ad (len:Nat):∀(a:Addr) (acc:ByteArray),SE P ρ (Extern.Bytes.loadBytes a len acc) (Extern.Bytes.loadBytes (bW ρ a) len acc):=by
 induction len with
 |zero=>intro a acc;exact af rfl
 |succ n ih=>
  intro a acc;unfold Extern.Bytes.loadBytes;refine SR.kZ (yc a _) fun v=>?_;cases v<;>simp only[mv]<;>first|exact ae|skip
  rename_i k b;cases k<;>first|exact ae|skip
  rw[jN];exact ih _ _
theorem Iu (v:Value):SE P ρ (Extern.Bytes.bytesOf v) (Extern.Bytes.bytesOf (mv ρ v)):=by
 cases v<;>simp only[mv,Extern.Bytes.bytesOf]<;>first|exact af rfl|exact ae|skip
 rename_i a l c;cases a with
 |none=>exact af rfl
 |some a=>exact Ad _ _ _
theorem Me (v:Value):SE P ρ (Extern.Bytes.asByte v) (Extern.Bytes.asByte (mv ρ v)):=by
 cases v<;>simp only[mv,Extern.Bytes.asByte]<;>first|exact ae|skip
 rename_i k n;cases k<;>first|exact ae|exact af rfl
theorem Dm (args:Array Value):SV P ρ (Extern.BytealgIndexByte.indexByte args) (Extern.BytealgIndexByte.indexByte (args.map (mv ρ))):=by
 obtain⟨l⟩:=args;rw[map_mk]
 match l with
 | []=>exact ae
 | [x]=>exact ae
 | [x,y]=>refine SR.az (Iu x) fun b=>SR.az (Me y) fun c=>?_;split<;>exact af (by simp[goInt,mv])
 |_::_::_::_=>exact ae
def swap (a b:Nat) (x:Nat):Nat:=if x=a then b else if x=b then a else x
theorem swap_inj (a b x y:Nat) (h:swap a b x=swap a b y):x=y:=by unfold swap at h;split at h<;>split at h<;>(try split at h)<;>(try split at h)<;>omega
theorem I_ (a b n:Nat) (h:(a<n↔b<n)) (x:Nat):swap a b x<n↔x<n:=by
 unfold swap;split
 ·subst_vars;exact h.symm
 ·split
  ·subst_vars;exact h
  ·exact Iff.rfl
def uq (n:Nat) (τ:Nat→Nat):Prop:=∃a b,(a<n∧b<n)∧τ=swap a b
theorem U_ {l:List FuncId} {n:Nat} (hn:P.globals.size=n) (h7:7≤n) (hfs:∀f,fs f=true→f∈l) (hz:zeros P.types.toList=true) (hgo:fs fM=false) (hde:fs lS=false)
 (ack:∀f∈l,∃fn,P.funcs[f]? =some fn∧Vi fs (gs f) fn=true∧(fn.body=none→∀ρ args,SN P ρ fs (callFunc f args) (callFunc f (args.map (mv ρ))))):
 Kit P fs gs n (uq n):=by
 have parts:∀f,fs f=true→∃fn,P.funcs[f]? =some fn∧(∀c,fn.body=some c→x8 fs c=true∧nX (gs f) c=true)∧fn.results.all (LD (gs f))=true∧(fn.name== "runtime.NumGoroutine")=false∧
  (fn.body=none→∀ρ args,SN P ρ fs (callFunc f args) (callFunc f (args.map (mv ρ)))):=by
  intro f hf;obtain⟨fn,h1,h2,h3⟩:=ack f (hfs f hf);unfold Vi at h2;simp only[Bool.and_eq_true]at h2;obtain⟨⟨h4,h5⟩,h6⟩:=h2;refine⟨fn,h1,fun c hc=>?_,by simpa using h5,by simpa using h6,h3⟩;rw[hc]at h4;simp only[Bool.and_eq_true]at h4;exact⟨Rv fs c▸h4.1,O6 _ c▸h4.2⟩
 have okf:∀ρ,QF P ρ fs:=by
  intro ρ f hf args;obtain⟨fn,h1,h2,h3,h4,h5⟩:=parts f hf;cases hb:fn.body with
  |none=>exact h5 hb ρ args
  |some c=>exact PE h1 hb h4 hf args
 have okg:∀ρ,(∀a b,ρ a=ρ b→a=b)→(∀b,ρ b<n↔b<n)→OkG P ρ:=fun ρ h1 h2=>{inj:=h1,zero:=Au hz,Q8:=by rw[hn];exact h2};refine⟨⟨by omega,by omega,fun ρ h1 h2=>?_,fun _=>hgo⟩,hgo,hde,⟨fun f hf=>?_⟩,⟨fun τ eY=>?_,fun b hb=>?_,by omega⟩⟩
 ·refine{S_:=okg ρ h1 fun b=>?_,fix:=fun b hb=>h2 b (by omega),calls:=okf ρ,body:=fun f hf=>?_}
  ·constructor
   ·intro h;have:=h2 (ρ b) (by omega);have:=h1 _ _ this;omega
   ·intro h;rw[h2 b (by omega)];exact h
  ·obtain⟨fn,h3,h4,_⟩:=parts f hf;exact⟨fn,h3,fun c hc=>(h4 c hc).1⟩
 ·obtain⟨fn,h3,h4,h5,_⟩:=parts f hf;exact⟨fn,h3,fun c hc=>(h4 c hc).2,h5⟩
 ·obtain⟨a,b,hab,rfl⟩:=eY;exact⟨okg _ (swap_inj a b) (I_ a b n (by omega)),okf _⟩
 ·refine⟨swap b (if b=0 then 1 else 0),⟨b,_,⟨hb,by split<;>omega⟩,rfl⟩,?_⟩;unfold swap;rw[if_pos rfl];split<;>omega
end Go.Ren
namespace Go.Proofs.YtheibfffilomcabGreatDoor
open Go.Ren Go.Proofs.Tryz
set_option linter.unusedSimpArgs false
set_option linter.unusedVariables false
def fsL:List FuncId:=[6,7,8,9,11,15,16,18,19,20,38,39,40,41,47,48,49,50,51,52,53,54,70,71,72,73,74,75,76,77,78,79,80,82,83,84,85,86,87,88,89,90,91,92,93,94,95,96,97,116,117,118,119,120,121,122,123,124,125,126,127,128,129,130,131,132,133,134,135,136,137,138,139,140,141,142,143,144,145,146,147,160,161,162,163,164,165,166,167,168,169,170,171,172,173,174,175,176,177,178,179,180,181,182,183,184,185,186,187,188,189,190,191,192,193,194,195,196,197,227,228,229,230,231,232,233,241,242,243,244,245,246,247,248,249]
def Wd (f:FuncId):Bool:=fsL.any (Nat.beq f)
def gsW (f:FuncId) (t:Tmp):Bool:=(Nat.beq f 231&&Nat.beq t 10)||(Nat.beq f 248&&Nat.beq t 11)||(Nat.beq f 249&&Nat.beq t 11)
noncomputable def ZL (f:FuncId):Bool:=match funcs.toList[f]? with|some fn=>Vi Wd (gsW f) fn|none=>false
theorem V5:zeros prog.types.toList=true:=by kernel_rfl
theorem goW:Wd fM=false:=by kernel_rfl
theorem deW:Wd lS=false:=by kernel_rfl
theorem SY:prog.globals.size=7:=by kernel_rfl
theorem abn:fsL.all ZL=true:=by kernel_rfl
theorem ab1:(fsL.all fun f=>Nat.beq f 196||Nat.beq f 228||match funcs.toList[f]? with|some fn=>fn.body.isSome|none=>false)=true:=by kernel_rfl
theorem ZH:Extern.findNext f196=none:=by kernel_rfl
theorem YS:Extern.find f196=some Extern.AbiNoEscape.same:=by kernel_rfl
theorem ZI:Extern.findNext f228=none:=by kernel_rfl
theorem YT:Extern.find f228=some Extern.BytealgIndexByte.indexByte:=by kernel_rfl
theorem ZC:(f196.name== "runtime.NumGoroutine")=false:=by kernel_rfl
theorem ZE:(f228.name== "runtime.NumGoroutine")=false:=by kernel_rfl
theorem Lj:Kit prog Wd gsW 7 (uq 7):=by
 refine U_ (l:=fsL) SY (by omega) (fun f h=>?_) V5 goW deW fun f hf=>?_
 ·unfold Wd at h;rw[List.any_eq_true]at h;obtain⟨x,hx,e⟩:=h;rw[Nat.eq_of_beq_eq_true e];exact hx
 ·have h1:=List.all_eq_true.1 abn f hf;have h2:=List.all_eq_true.1 ab1 f hf;unfold ZL at h1;cases hfn:funcs.toList[f]? with
  |none=>rw[hfn]at h1;cases h1
  |some fn=>
   rw[hfn]at h1 h2;have hfn':prog.funcs[f]? =some fn:=by rw[←hfn];simp[prog]
   refine⟨fn,hfn',h1,fun hb ρ args=>?_⟩;simp only[hb,Option.isSome_none,Bool.or_false,Bool.or_eq_true]at h2;rcases h2 with e|e
   ·have e:=Nat.eq_of_beq_eq_true e;subst e;rw[func196]at hfn';cases hfn';exact PG func196 hb ZC ZH YS args (RQ args)
   ·have e:=Nat.eq_of_beq_eq_true e;subst e;rw[func228]at hfn';cases hfn';exact PG func228 hb ZE ZI YT args (Dm args)
theorem SK:∀fn,prog.funcs[9]? =some fn→fn.results.all oM=true:=by intro fn h;rw[func9]at h;cases h;rw[←Array.all_toList];kernel_rfl
theorem VD:∀fn,prog.funcs[15]? =some fn→fn.results.all oM=true:=by intro fn h;rw[func15]at h;cases h;rw[←Array.all_toList];kernel_rfl
theorem VE:∀fn,prog.funcs[16]? =some fn→fn.results.all oM=true:=by intro fn h;rw[func16]at h;cases h;rw[←Array.all_toList];kernel_rfl
theorem ZT:∀fn,prog.funcs[6]? =some fn→fn.results.all oM=true:=by intro fn h;rw[func6]at h;cases h;rw[←Array.all_toList];kernel_rfl
theorem ZU:∀fn,prog.funcs[7]? =some fn→fn.results.all oM=true:=by intro fn h;rw[func7]at h;cases h;rw[←Array.all_toList];kernel_rfl
theorem ZV:∀fn,prog.funcs[8]? =some fn→fn.results.all oM=true:=by intro fn h;rw[func8]at h;cases h;rw[←Array.all_toList];kernel_rfl
end Go.Proofs.YtheibfffilomcabGreatDoor
namespace Go.Ren
open Go.Conc
set_option linter.unusedSimpArgs false
set_option linter.unusedVariables false
set_option linter.unusedSectionVars false
variable {P:Program} {main:Bool}
inductive Rk:Type where
 |none
 |leaf
 |node (f:World × Goroutine × World→Rk)
inductive Rk.Lt:Rk→Rk→Prop
 |leaf:Rk.Lt .none .leaf
 |node (f:World × Goroutine × World→Rk) (x:World × Goroutine × World):Rk.Lt (f x) (.node f)
theorem Rk.wf:WellFounded Rk.Lt:=⟨fun r=>by
 have h0:Acc Rk.Lt .none:=⟨_,fun y h=>by cases h⟩;induction r with
 |none=>exact h0
 |leaf=>exact⟨_,fun y h=>by cases h;exact h0⟩
 |node f ih=>exact⟨_,fun y h=>by cases h with|node _ x=>exact ih x⟩⟩
def Xw (n:Nat) (r' r:Nat→Rk):Prop:=∃i,i<n∧Rk.Lt (r' i) (r i)∧∀k,k≠i→r' k=r k
theorem Pm:∀n,WellFounded (Xw n)
 | 0=>⟨fun r=>⟨_,fun y h=>by obtain⟨i,hi,_⟩:=h;omega⟩⟩
 |n+1=>by
  have w:WellFounded (Prod.Lex Rk.Lt (Xw n)):=(Prod.lex ⟨_,Rk.wf⟩ ⟨_,Pm n⟩).wf;refine Subrelation.wf (r:=InvImage (Prod.Lex Rk.Lt (Xw n)) fun r=>(r n,r)) ?_ (InvImage.wf _ w);rintro r' r ⟨i,hi,h1,h2⟩;show Prod.Lex _ _ (r' n,r') (r n,r);by_cases e:i=n
  ·subst e;exact .left _ _ h1
  ·rw[h2 n (fun x=>e x.symm)];exact .right _ ⟨i,by omega,h1,fun k hk=>h2 k hk⟩
def Lt3 (n:Nat):Nat × (Nat→Rk) × Nat→Nat × (Nat→Rk) × Nat→Prop:=Prod.Lex (· < ·) (Prod.Lex (Xw n) (· < ·))
theorem lt3_wf (n:Nat):WellFounded (Lt3 n):=(Prod.lex ⟨_,Nat.lt_wfRel.wf⟩ (Prod.lex ⟨_,Pm n⟩ ⟨_,Nat.lt_wfRel.wf⟩)).wf
theorem Lt3.one {n a a':Nat} {x x':(Nat→Rk) × Nat} (h:a'<a):Lt3 n (a',x') (a,x):=.left _ _ h
theorem Lt3.two {n a a' f f':Nat} {r r':Nat→Rk} (e:a'=a) (h:Xw n r' r):Lt3 n (a',r',f') (a,r,f):=by subst e;exact .right _ (.left _ _ h)
theorem Lt3.three {n a a' f f':Nat} {r r':Nat→Rk} (e:a'=a) (e':r'=r) (h:f'<f):Lt3 n (a',r',f') (a,r,f):=by subst e e';exact .right _ (.right _ h)
theorem OZ {n a b f g g':Nat} {r:Nat→Rk} {x:Nat × (Nat→Rk) × Nat} (h:Lt3 n x (a,r,f)) (hab:a<b):Lt3 n x (b,r,g):=by
 obtain⟨x1,x2⟩:=x;rcases Prod.lex_def.1 h with h|⟨h,_⟩
 ·exact .left _ _ (Nat.lt_trans h hab)
 ·simp only at h;subst h;exact .left _ _ hab
structure RY (K:Nat→Prop) (w w₁:World):Prop where
 keep:∀b,K b→w₁.heap[b]? =w.heap[b]?
 size:w.heap.size≤w₁.heap.size
 os:w₁.os=w.os
theorem RY.refl {K:Nat→Prop} (w:World):RY K w w:=⟨fun _ _=>rfl,Nat.le_refl _,rfl⟩
theorem RY.trans {K:Nat→Prop} {a b c:World} (h:RY K a b) (h':RY K b c):RY K a c:=
 ⟨fun x hx=>(h'.keep x hx).trans (h.keep x hx),Nat.le_trans h.size h'.size,h'.os.trans h.os⟩
theorem RY.mono {K K':Nat→Prop} {a b:World} (h:RY K a b) (hk:∀x,K' x→K x):RY K' a b:=⟨fun x hx=>h.keep x (hk x hx),h.size,h.os⟩
def Wo (Bs S:Nat→Prop) (lo hi:Nat) (e:Event):Prop:=
 (∃a,e.loc= .cell a∧(S a.block∨(lo≤a.block∧a.block<hi)∨(Bs a.block∧e.write=false)))∨
   (∃r,e.loc= .obj r∧(S r∨(lo≤r∧r<hi)∨(Bs r∧e.write=false)))∨(∃m,e.loc= .mark m∧xn m=true)
structure GY (Bs S:Nat→Prop) (w w':World) (es:Array Event):Prop where
 keep:∀b,b<w.heap.size→¬S b→w'.heap[b]? =w.heap[b]?
 size:w.heap.size≤w'.heap.size
 tape:w'.tape=w.tape
 os:w'.os=w.os
 output:w'.output=w.output
 evs:∀e∈es,Wo Bs S w.heap.size w'.heap.size e
theorem GY.idle {Bs S:Nat→Prop} (w:World):GY Bs S w w #[]:=⟨fun _ _ _=>rfl,Nat.le_refl _,rfl,rfl,rfl,fun e he=>by simp at he⟩
def grown (S:Nat→Prop) (w w':World):Nat→Prop:=fun b=>S b∨(w.heap.size≤b∧b<w'.heap.size)
theorem gV (S:Nat→Prop) (w:World):grown S w w=S:=by
 funext b;apply propext;constructor
 ·rintro(h|h)
  ·exact h
  ·omega
 ·exact .inl
def GT (P:Program) (main:Bool) (Bs:Nat→Prop) (Stop:(Nat→Prop)→Goroutine→World→Prop):Rk→(Nat→Prop)→Goroutine→World→Prop
 | .none,_,_,_=>False
 | .leaf,S,g,w=>∀w₁,RY (fun b=>Bs b∨S b) w w₁→Stop S g w₁
 | .node f,S,g,w=>g.status= .running∧∀w₁,RY (fun b=>Bs b∨S b) w w₁→∃g' w' es,stepG P main g w₁= .go g' w' es∧GY Bs S w₁ w' es∧GT P main Bs Stop (f (w₁,g',w')) (grown S w₁ w') g' w'
def GE (P:Program) (main:Bool) (Bs:Nat→Prop) (Stop:(Nat→Prop)→Goroutine→World→Prop) (S:Nat→Prop) (g:Goroutine) (w:World):Prop:=∃r,GT P main Bs Stop r S g w
section
variable {Bs S:Nat→Prop} {Stop Stop':(Nat→Prop)→Goroutine→World→Prop} {g:Goroutine} {w w₁:World} {r:Rk}
theorem GT.rely (h:GT P main Bs Stop r S g w) (q:RY (fun b=>Bs b∨S b) w w₁):GT P main Bs Stop r S g w₁:=by
 cases r with
 |none=>exact h
 |leaf=>exact fun w₂ q₂=>h w₂ (q.trans q₂)
 |node f=>exact⟨h.1,fun w₂ q₂=>h.2 w₂ (q.trans q₂)⟩
theorem GE.stop (h:∀w₁,RY (fun b=>Bs b∨S b) w w₁→Stop S g w₁):GE P main Bs Stop S g w:=⟨.leaf,h⟩
theorem GE.rely (h:GE P main Bs Stop S g w) (q:RY (fun b=>Bs b∨S b) w w₁):GE P main Bs Stop S g w₁:=let⟨r,h⟩:=h;⟨r,h.rely q⟩
theorem GE.step (hr:g.status= .running) (h:∀w₁,RY (fun b=>Bs b∨S b) w w₁→∃g' w' es,stepG P main g w₁= .go g' w' es∧GY Bs S w₁ w' es∧GE P main Bs Stop (grown S w₁ w') g' w'):GE P main Bs Stop S g w:=by
 have:∀x:World × Goroutine × World,∃r,(∃es,stepG P main g x.1= .go x.2.1 x.2.2 es∧RY (fun b=>Bs b∨S b) w x.1)→GT P main Bs Stop r (grown S x.1 x.2.2) x.2.1 x.2.2:=by
  intro x;by_cases hx:∃es,stepG P main g x.1= .go x.2.1 x.2.2 es∧RY (fun b=>Bs b∨S b) w x.1
  ·obtain⟨es,h1,h2⟩:=hx;obtain⟨g',w',es',h3,_,r,h4⟩:=h x.1 h2;rw[h1]at h3;simp only[GStep.go.injEq]at h3;obtain⟨e1,e2,_⟩:=h3;exact⟨r,fun _=>by rw[e1,e2];exact h4⟩
  ·exact⟨.none,fun y=>absurd y hx⟩
 obtain⟨f,hf⟩:=Classical.axiomOfChoice this;refine⟨.node f,hr,fun w₁ q=>?_⟩;obtain⟨g',w',es,h1,h2,_⟩:=h w₁ q;exact⟨g',w',es,h1,h2,hf (w₁,g',w') ⟨es,h1,q⟩⟩
theorem GT.bind (hs:∀S g w,Stop S g w→GE P main Bs Stop' S g w):∀{r:Rk} {S:Nat→Prop} {g:Goroutine} {w:World},GT P main Bs Stop r S g w→GE P main Bs Stop' S g w:=by
 intro r;induction r with
 |none=>intro S g w h;exact h.elim
 |leaf=>intro S g w h;exact hs _ _ _ (h w (.refl w))
 |node f ih=>intro S g w h;refine GE.step h.1 fun w₁ q=>?_;obtain⟨g',w',es,h1,h2,h3⟩:=h.2 w₁ q;exact⟨g',w',es,h1,h2,ih _ h3⟩
theorem GE.bind (h:GE P main Bs Stop S g w) (hs:∀S g w,Stop S g w→GE P main Bs Stop' S g w):GE P main Bs Stop' S g w:=let⟨_,h⟩:=h;h.bind hs
theorem GT.running (h:GT P main Bs Stop r S g w) (hs:∀S g w,Stop S g w→g.status= .running):g.status= .running:=by
 cases r with
 |none=>exact h.elim
 |leaf=>exact hs _ _ _ (h w (.refl w))
 |node f=>exact h.1
end
end Go.Ren
namespace Go.Ren
open Go.Conc Go.ConcN
open Go.ConcR (KK wgBlock WgAt stA smA rd wr mk Payload Aside2 DC0 Bk g_of_ofEvents bk_of_mute ofEvent_loc_mark ofEvent_cell deafBehind_cons deafBehind_one ofEvent_mk again_blocked)
set_option linter.unusedSimpArgs false
set_option linter.unusedVariables false
set_option linter.unusedSectionVars false
def blk:Loc→Option Nat
 | .cell a=>some a.block
 | .obj r=>some r
 |_=>none
def Js (Wg C B0:Nat) (b:Nat):Prop:=b<B0∧b≠Wg∧b≠C
def yA (C k:Nat) (l:Loc):Prop:=1≤k∧l= .cell ⟨C,k-1,none⟩
def NM (_:Nat) (_:Loc):Prop:=False
def Ed (C:Nat) (S:Nat→Nat→Prop) (k:Nat) (l:Loc):Prop:=1≤k∧(l= .cell ⟨C,k-1,none⟩∨∃b,blk l=some b∧S k b)
def RdT (Wg C B0:Nat) (_:Nat) (l:Loc):Prop:=∃b,blk l=some b∧Js Wg C B0 b
structure OkOp (Wg C B0 k hi:Nat) (Sk:Nat→Prop) (op:MemOp):Prop where
 g:op.g=k
 t:∀x,op.act.touch?=some x→(∀b,blk x.loc=some b→b<hi)∧((ShN Wg x.loc∧x.kind≠ .plain∧(x.kind= .said→k=0))∨(¬ShN Wg x.loc∧((1≤k∧x.loc= .cell ⟨C,k-1,none⟩)∨(∃b,blk x.loc=some b∧Sk b)∨((∃b,blk x.loc=some b∧Js Wg C B0 b)∧x.write=false))))
def grow (S:Nat→Nat→Prop) (k:Nat) (w w':World):Nat→Nat→Prop:=fun k'=>if k'=k then grown (S k) w w' else S k'
theorem iB (S:Nat→Nat→Prop) (k:Nat) (w w':World):grow S k w w' k=grown (S k) w w':=by simp[grow]
theorem ji (S:Nat→Nat→Prop) {k k':Nat} (w w':World) (h:k'≠k):grow S k w w' k'=S k':=by simp[grow,h]
structure Env (Wg C B0 j:Nat) (w0 w:World) (t:Trace) (S:Nat→Nat→Prop):Prop where
 own:∀k b,S k b→B0≤b∧b<w.heap.size
 Sq:∀k k' b,S k b→S k' b→k=k'
 low:B0≤w.heap.size
 base:∀b,Js Wg C B0 b→w.heap[b]? =w0.heap[b]?
 os:w.os=w0.os
 o:w.output=w0.output
 tape:w.tape=w0.tape
 seen:∀i x,touchAt t i=some x→∀b,blk x.loc=some b→b<w.heap.size
 ct:CT (ShN Wg) (Ed C S) (RdT Wg C B0) t j
section
variable {Wg C B0 j:Nat} {w0 w w':World} {t:Trace} {S S':Nat→Nat→Prop}
theorem vH {Wg:Nat} {l:Loc} (h:ShN Wg l):blk l=some Wg:=by obtain⟨a,rfl,e⟩:=h;simp[blk,e]
theorem apart (hW:Wg<B0) (hC:C<B0) (hCW:C≠Wg) (own:∀k b,S k b→B0≤b) (Sq:∀k k' b,S k b→S k' b→k=k'):Apart (ShN Wg) (Ed C S) (RdT Wg C B0):=by
 have key:∀{k l b},Ed C S k l→blk l=some b→b=C∨B0≤b:=by
  rintro k l b ⟨_,rfl|⟨b',h1,h2⟩⟩ h
  ·left;simpa[blk]using h.symm
  ·rw[h1]at h;cases h;exact .inr (own _ _ h2)
 refine⟨?_,?_,?_,?_⟩
 ·rintro k k' l ⟨h1,h2⟩ ⟨h3,h4⟩;rcases h2 with rfl|⟨b,h5,h6⟩
  ·rcases h4 with h4|⟨b,h5,h6⟩
   ·simp at h4;omega
   ·simp[blk]at h5;subst h5;have:=own _ _ h6;omega
  ·rcases h4 with rfl|⟨b',h7,h8⟩
   ·simp[blk]at h5;subst h5;have:=own _ _ h6;omega
   ·rw[h5]at h7;cases h7;exact Sq _ _ _ h6 h8
 ·rintro k k' l h ⟨b,h1,h2,h3,h4⟩;rcases key h h1 with rfl|h5
  ·exact h4 rfl
  ·omega
 ·intro k l h hs;rcases key h (vH hs)with h5|h5
  ·exact hCW h5.symm
  ·omega
 ·rintro k l ⟨b,h1,h2,h3,h4⟩ hs;rw[vH hs]at h1;cases h1;exact h3 rfl
theorem JW {Sh:Loc→Prop} {Own Own' Rd:Nat→Loc→Prop} (h:CT Sh Own Rd t j) (hup:∀k l,1≤k→k≤j→Own k l→Own' k l) (hdn:∀k l,1≤k→k≤j→Own' k l→Own k l∨∀i x,touchAt t i=some x→x.loc≠l):CT Sh Own' Rd t j:=
 ⟨h.quiet,fun k k1 kj l hl=>(hdn k l k1 kj hl).elim (h.own k k1 kj l) fun hx i a ha e=>absurd e (hx i a ha),h.rd,
   fun l hs hl=>h.free l hs fun k k1 kj=>⟨fun x=>(hl k k1 kj).1 (hup k l k1 kj x),(hl k k1 kj).2⟩,fun l hs hl=>h.mine l hs fun k k1 kj x=>hl k k1 kj (hup k l k1 kj x),h.nr,h.gs⟩
theorem Env.at (h:Env Wg C B0 j w0 w t S) (d:Nat):Env Wg C B0 j w0 (w.at d) t S:=⟨h.own,h.Sq,h.low,h.base,h.os,h.o,h.tape,h.seen,h.ct⟩
structure Eff (ty:TypeId) (Wg C n k:Nat) [Payload] (Sk:Nat→Prop) (w w':World):Prop where
 keep:∀b,b<w.heap.size→¬Sk b→b≠Wg→b≠C→w'.heap[b]? =w.heap[b]?
 size:w.heap.size≤w'.heap.size
 os:w'.os=w.os
 o:w'.output=w.output
 tape:w'.tape=w.tape
 live:WgLive ty Wg w→WgLive ty Wg w'
 pay:PayAt C n w→PayAt C n w'
 cells:∀i,i+1≠k→w'.cell? ⟨C,i,none⟩=w.cell? ⟨C,i,none⟩
theorem Env.step [Payload] {ty:TypeId} {n k:Nat} (hW:Wg<B0) (hC:C<B0) (hCW:C≠Wg) (hk:k≤j) (h:Env Wg C B0 j w0 w t S) (E:Eff ty Wg C n k (S k) w w') {fn:FuncId} {pos:String} {es:Array Event}
 (hes:∀op∈MemOp.ofEvents k fn pos es,OkOp Wg C B0 k w'.heap.size (grown (S k) w w') op):Env Wg C B0 j w0 w' (t++MemOp.ofEvents k fn pos es) (grow S k w w'):=by
 have hz:=E.size;have own':∀k' b,grow S k w w' k' b→B0≤b∧b<w'.heap.size:=by
  intro k' b hb;by_cases e:k'=k
  ·subst e;rw[iB]at hb;rcases hb with hb|hb
   ·have:=h.own _ _ hb;omega
   ·have:=h.low;omega
  ·rw[ji _ _ _ e]at hb;have:=h.own _ _ hb;omega
 have KZ:∀k1 k2 b,grow S k w w' k1 b→grow S k w w' k2 b→k1=k2:=by
  intro k1 k2 b h1 h2;by_cases e1:k1=k<;>by_cases e2:k2=k
  ·omega
  ·subst e1;rw[iB]at h1;rw[ji _ _ _ e2]at h2;rcases h1 with h1|h1
   ·exact h.Sq _ _ _ h1 h2
   ·have:=h.own _ _ h2;omega
  ·subst e2;rw[iB]at h2;rw[ji _ _ _ e1]at h1;rcases h2 with h2|h2
   ·exact h.Sq _ _ _ h1 h2
   ·have:=h.own _ _ h1;omega
  ·rw[ji _ _ _ e1]at h1;rw[ji _ _ _ e2]at h2;exact h.Sq _ _ _ h1 h2
 have A:=apart hW hC hCW (fun k b x=>(own' k b x).1) KZ;have ct1:CT (ShN Wg) (Ed C (grow S k w w')) (RdT Wg C B0) t j:=by
  refine JW h.ct ?_ ?_
  ·rintro k' l k1 kj ⟨h1,h2⟩;refine⟨h1,h2.imp id ?_⟩;rintro⟨b,h3,h4⟩;refine⟨b,h3,?_⟩;by_cases e:k'=k
   ·subst e;rw[iB];exact .inl h4
   ·rw[ji _ _ _ e];exact h4
  ·rintro k' l k1 kj ⟨h1,h2⟩;rcases h2 with h2|⟨b,h3,h4⟩
   ·exact .inl ⟨h1,.inl h2⟩
   ·by_cases e:k'=k
    ·subst e;rw[iB]at h4;rcases h4 with h4|h4
     ·exact .inl ⟨h1,.inr ⟨b,h3,h4⟩⟩
     ·exact .inr fun i x hx e=>by have:=h.seen i x hx b (e▸h3);omega
    ·rw[ji _ _ _ e]at h4;exact .inl ⟨h1,.inr ⟨b,h3,h4⟩⟩
 have adl:∀{b:Nat} {l:Loc},blk l=some b→grown (S k) w w' b→∀k',1≤k'→k'≤j→k'≠k→¬Ed C (grow S k w w') k' l:=by
  rintro b l hb hg k' k1 kj hne ⟨_,h2⟩;have hg':grow S k w w' k b:=by rw[iB];exact hg
  rcases h2 with rfl|⟨b',h3,h4⟩
  ·simp[blk]at hb;subst hb;have:=(own' k _ hg').1;omega
  ·rw[hb]at h3;cases h3;exact hne (KZ _ _ _ h4 hg')
 refine⟨own',KZ,Nat.le_trans h.low hz,fun b hb=>?_,E.os.trans h.os,E.o.trans h.o,E.tape.trans h.tape,fun i x hx b hb=>?_,?_⟩
 ·rw[←h.base b hb];exact E.keep b (Nat.lt_of_lt_of_le hb.1 h.low) (fun x=>by have:=(h.own _ _ x).1;have:=hb.1;omega) hb.2.1 hb.2.2
 ·obtain⟨op,ho,hx'⟩:=touch_of hx;rcases getElem?_append_cases ho with⟨_,ho'⟩|⟨_,hou⟩
  ·have:=h.seen i x (by rw[touchAt_of ho'];exact hx') b hb;omega
  ·exact((hes op hou).t x hx').1 b hb
 ·rcases Nat.eq_zero_or_pos k with rfl|kp
  ·refine ct1.app0 A fun op hop=>⟨(hes op hop).g,fun x hx=>?_⟩;rcases((hes op hop).t x hx).2 with⟨h1,h2,_⟩|⟨h1,h2|⟨b,h2,h3⟩|⟨⟨b,h2,h3⟩,h4⟩⟩
   ·exact .inl ⟨h1,h2⟩
   ·omega
   ·exact .inr ⟨h1,fun k' k1 kj=>adl h2 h3 k' k1 kj (by omega),fun _ k' _ _ ⟨b',h5,h6⟩=>by
     rw[h2]at h5;cases h5;have hg':grow S 0 w w' 0 b:=by rw[iB];exact h3
     have:=(own' 0 b hg').1
     have:=h6.1;omega⟩
   ·exact .inr ⟨h1,fun k' _ _ ho=>A.ownRd k' 0 x.loc ho ⟨b,h2,h3⟩,fun hw=>by rw[h4]at hw;cases hw⟩
  ·refine ct1.appW A kp hk fun op hop=>⟨(hes op hop).g,fun x hx=>?_⟩;rcases((hes op hop).t x hx).2 with⟨h1,h2,h3⟩|⟨h1,h2|⟨b,h2,h3⟩|⟨h2,h4⟩⟩
   ·exact .inl ⟨h1,h2,fun e=>by have:=h3 e;omega⟩
   ·exact .inr (.inl ⟨kp,.inl h2.2⟩)
   ·exact .inr (.inl ⟨kp,.inr ⟨b,h2,by rw[iB];exact h3⟩⟩)
   ·exact .inr (.inr ⟨h2,h4⟩)
theorem Eff.ry [Payload] {ty:TypeId} {n k k':Nat} (h:Env Wg C B0 j w0 w t S) (E:Eff ty Wg C n k (S k) w w') (hW:Wg<B0) (hC:C<B0) (hne:k'≠k):RY (fun b=>Js Wg C B0 b∨S k' b) w w':=by
 refine⟨fun b hb=>?_,E.size,E.os⟩;rcases hb with hb|hb
 ·exact E.keep b (Nat.lt_of_lt_of_le hb.1 h.low) (fun x=>by have:=(h.own _ _ x).1;have:=hb.1;omega) hb.2.1 hb.2.2
 ·have:=h.own _ _ hb;exact E.keep b this.2 (fun x=>hne (h.Sq _ _ _ hb x)) (by omega) (by omega)
theorem Eff.rw [Payload] {ty:TypeId} {n k i:Nat} {Sk:Nat→Prop} (E:Eff ty Wg C n k Sk w w') (hne:i+1≠k):RW ty Wg C n 0 i w w':=⟨fun b hb=>by omega,E.live,E.pay,E.cells i hne⟩
end
end Go.Ren
namespace Go.Ren
open Go.Conc Go.ConcN
open Go.ConcR (KK wgBlock WgAt stA smA rd wr mk Payload Aside2 DC0 Bk g_of_ofEvents bk_of_mute ofEvent_loc_mark ofEvent_cell deafBehind_cons deafBehind_one ofEvent_mk again_blocked)
set_option linter.unusedSimpArgs false
set_option linter.unusedVariables false
set_option linter.unusedSectionVars false
section
variable {Wg C B0 k lo hi:Nat} {S Sk:Nat→Prop} {fn:FuncId} {pos:String} {e:Event}
theorem oO (h:(MemAct.ofEvent e).touch?=none):OkOp Wg C B0 k hi Sk {g:=k,fn,pos,act:=.ofEvent e}:=⟨rfl,fun x hx=>by simp only[h]at hx;cases hx⟩
theorem EU (hW:Wg<B0) (hlo:B0≤lo) (hh:lo≤hi) (own:∀b,S b→B0≤b∧b<lo) (h:Wo (Js Wg C B0) S lo hi e):OkOp Wg C B0 k hi (fun b=>S b∨(lo≤b∧b<hi)) {g:=k,fn,pos,act:=.ofEvent e}:=by
 have core:∀(l:Loc) (b:Nat) (kd:Touch.Kind),blk l=some b→(S b∨(lo≤b∧b<hi)∨(Js Wg C B0 b∧e.write=false))→
  (∀b',blk l=some b'→b'<hi)∧((ShN Wg l∧kd≠ .plain∧(kd= .said→k=0))∨(¬ShN Wg l∧((1≤k∧l= .cell ⟨C,k-1,none⟩)∨(∃b,blk l=some b∧(S b∨(lo≤b∧b<hi)))∨((∃b,blk l=some b∧Js Wg C B0 b)∧e.write=false)))):=by
  intro l b kd hb hc;have nsh:b≠Wg→¬ShN Wg l:=fun hne hs=>by rw[vH hs]at hb;cases hb;exact hne rfl
  rcases hc with hc|hc|⟨hc,hw⟩
  ·have:=own b hc;exact⟨fun b' h'=>by rw[hb]at h';cases h';omega,.inr ⟨nsh (by omega),.inr (.inl ⟨b,hb,.inl hc⟩)⟩⟩
  ·exact⟨fun b' h'=>by rw[hb]at h';cases h';omega,.inr ⟨nsh (by omega),.inr (.inl ⟨b,hb,.inr hc⟩)⟩⟩
  ·exact⟨fun b' h'=>by rw[hb]at h';cases h';have:=hc.1;omega,.inr ⟨nsh hc.2.1,.inr (.inr ⟨⟨b,hb,hc⟩,hw⟩)⟩⟩
 obtain⟨loc,wr,sy⟩:=e;rcases h with⟨a,h1,h2⟩|⟨r,h1,h2⟩|⟨m,h1,h2⟩
 ·simp only at h1;subst h1;refine⟨rfl,fun x hx=>?_⟩;have hx':x=⟨.cell a,wr,if sy then .atomic else .plain⟩:=by simpa[MemAct.ofEvent,MemAct.touch?]using hx.symm
  subst hx';exact core _ a.block _ rfl h2
 ·simp only at h1;subst h1;refine⟨rfl,fun x hx=>?_⟩;have hx':x=⟨.obj r,wr,if sy then .atomic else .plain⟩:=by cases wr<;>cases sy<;>first|(simp[MemAct.ofEvent,MemAct.touch?]at hx;done)|simpa[MemAct.ofEvent,MemAct.touch?]using hx.symm
  subst hx';exact core _ r _ rfl h2
 ·simp only at h1;subst h1;exact oO (by cases m<;>first|rfl|cases h2)
theorem Kh (hh:Wg<hi) (h:Bk Wg e):OkOp Wg C B0 k hi Sk {g:=k,fn,pos,act:=.ofEvent e}:=by
 rcases h with h1|h1|⟨a,wr,rfl,ha⟩
 ·exact oO (by rw[ofEvent_loc_mark h1];rfl)
 ·exact oO (by rw[ofEvent_loc_mark h1];rfl)
 ·refine⟨rfl,fun x hx=>?_⟩;simp only[ofEvent_cell,MemAct.touch?,Option.some.injEq]at hx;subst hx;exact⟨fun b hb=>by simp[blk]at hb;omega,.inl ⟨⟨a,rfl,ha⟩,by simp,by simp⟩⟩
theorem O7 (hC:C<hi) (hh:Wg<hi) (hCW:C≠Wg) (h:EvW Wg (yA C) NM k e):OkOp Wg C B0 k hi Sk {g:=k,fn,pos,act:=.ofEvent e}:=by
 obtain⟨_,h1⟩:=h.1 fn pos;refine⟨rfl,fun x hx=>?_⟩;rcases h1 x hx with⟨h2,h3,h4⟩|⟨h2,h3⟩|⟨h2,_⟩
 ·exact⟨fun b hb=>by rw[vH h2]at hb;cases hb;exact hh,.inl ⟨h2,h3,fun e=>absurd e h4⟩⟩
 ·refine⟨fun b hb=>by rw[h3]at hb;simp[blk]at hb;omega,.inr ⟨fun hs=>?_,.inl ⟨h2,h3⟩⟩⟩;have:=vH hs;rw[h3]at this;simp[blk]at this;exact hCW this
 ·exact h2.elim
def Said (Wg:Nat) (e:Event):Prop:=∃a,(e=⟨.mark (.read a),false,true⟩∨e=⟨.mark (.write a),false,true⟩)∧a.block=Wg
theorem Lx (hh:Wg<hi) (h:Said Wg e):OkOp Wg C B0 0 hi Sk {g:=0,fn,pos,act:=.ofEvent e}:=by
 obtain⟨a,h1,h2⟩:=h;refine⟨rfl,fun x hx=>?_⟩;have hx':x.loc= .cell a∧x.kind= .said:=by rcases h1 with rfl|rfl<;>(simp[MemAct.ofEvent,MemAct.touch?]at hx;subst hx;exact⟨rfl,rfl⟩)
 exact⟨fun b hb=>by rw[hx'.1]at hb;simp[blk]at hb;omega,.inl ⟨⟨a,hx'.1,h2⟩,by rw[hx'.2];simp,fun _=>rfl⟩⟩
theorem tN (h:Said Wg e):e.loc≠ .mark .disable∧e.loc≠ .mark .enable∧e.loc≠ .mark (.release (stA Wg)):=by obtain⟨a,rfl|rfl,_⟩:=h<;>exact⟨by simp,by simp,by simp⟩
theorem jB {Bs:Nat→Prop} (h:Wo Bs S lo hi e):e.loc≠ .mark .disable∧e.loc≠ .mark .enable∧e.loc≠ .mark (.release (stA Wg)):=by
 rcases h with⟨a,h,_⟩|⟨a,h,_⟩|⟨m,h,hm⟩
 ·rw[h];exact⟨by simp,by simp,by simp⟩
 ·rw[h];exact⟨by simp,by simp,by simp⟩
 ·rw[h];refine⟨?_,?_,?_⟩<;>(intro x;cases x;cases hm)
end
theorem Ig {Wg C B0 k hi:Nat} {Sk:Nat→Prop} {fn:FuncId} {pos:String} {es:Array Event} (h:∀e∈es,OkOp Wg C B0 k hi Sk {g:=k,fn,pos,act:=.ofEvent e}):∀op∈MemOp.ofEvents k fn pos es,OkOp Wg C B0 k hi Sk op:=by intro op hop;obtain⟨e,he,rfl⟩:=Go.Conc.mem_ofEvents hop;exact h e he
structure oF (Wg:Nat) (t:Trace) (k r:Nat):Prop where
 QN:RelBy (stA Wg) t k r
 sh:∀i x,r<i→t.g? i=some k→touchAt t i=some x→ShN Wg x.loc
theorem oF.app {Wg:Nat} {t u:Trace} {k r:Nat} (h:oF Wg t k r) (hb:RelBy (stA Wg) (t++u) k r) (hu:∀op∈u,op.g=k→∀x,op.act.touch?=some x→ShN Wg x.loc):oF Wg (t++u) k r:=by
 refine⟨hb,fun i x hi hg hx=>?_⟩;obtain⟨op,ho,hx'⟩:=touch_of hx;rcases getElem?_append_cases ho with⟨hlt,ho'⟩|⟨_,hou⟩
 ·exact h.sh i x hi (by rw[←g?_old (u:=u) hlt];exact hg) (by rw[touchAt_of ho'];exact hx')
 ·exact hu op hou (by simpa[Trace.g?,ho]using hg) x hx'
theorem oF.other {Wg:Nat} {t u:Trace} {k r g:Nat} (h:oF Wg t k r) (hu:∀op∈u,op.g=g) (hg:g≠k):oF Wg (t++u) k r:=
 h.app (h.QN.appOther hu hg) fun op hop e=>absurd ((hu op hop).symm.trans e) hg
theorem oF.not {Wg:Nat} {t u:Trace} {k r:Nat} (h:oF Wg t k r) (hu:∀op∈u,op.g≠k):oF Wg (t++u) k r:=
 h.app (h.QN.appNot hu) fun op hop e=>absurd e (hu op hop)
theorem oF.book {Wg:Nat} {t:Trace} {k r d:Nat} (h:oF Wg t k r) (hdk:Deaf t k=d) (fn:FuncId) (pos:String) {es:Array Event} (hes:∀e∈es,Bk Wg e)
 (hd:∀j e,es[j]? =some e→(MemAct.ofEvent e).touch?=none∨0<deafBehind d (es.extract 0 j)):oF Wg (t++MemOp.ofEvents k fn pos es) k r:=by
 refine h.app (h.QN.book hdk fn pos hes hd) fun op hop _ x hx=>?_;obtain⟨e,he,rfl⟩:=Go.Conc.mem_ofEvents hop;rcases hes e he with h1|h1|⟨a,wr,rfl,ha⟩
 ·simp only[ofEvent_loc_mark h1]at hx;cases hx
 ·simp only[ofEvent_loc_mark h1]at hx;cases hx
 ·simp only[ofEvent_cell,MemAct.touch?,Option.some.injEq]at hx;subst hx;exact⟨a,rfl,ha⟩
theorem oF.new {Wg:Nat} {t:Trace} {k:Nat} (hd:Deaf t k=0) (fn:FuncId) (pos:String):oF Wg (t++MemOp.ofEvents k fn pos #[Go.ConcR.mk (.releaseMerge (stA Wg))]) k t.size:=by
 refine⟨RelBy.new hd fn pos,fun i x hi hg hx=>?_⟩;obtain⟨op,ho,_⟩:=touch_of hx;have:=lt_size_of_getElem? ho;have e1:MemOp.ofEvents k fn pos #[Go.ConcR.mk (.releaseMerge (stA Wg))]= #[{g:=k,fn,pos,act:=.mark (.releaseMerge (stA Wg))}]:=by rw[ofEvents_eq];simp[ofEvent_mk]
 rw[e1]at this;simp at this;omega
end Go.Ren
