import Derived.Test.YtheibfffilomcabGreatDoorR38U
import Derived.KernelRfl
set_option linter.all false
namespace Go.Ren
set_option linter.unusedSimpArgs false
set_option linter.unusedVariables false
set_option linter.unusedSectionVars false
variable {P:Program} {ρ:Nat→Nat} {fs:FuncId→Bool} {gs:FuncId→Tmp→Bool}
def zm:Nat→Value→Bool
 | 0,_=>false
 |n+1,.agg cs=>cs.toList.all (zm n)
 |n+1,.tuple cs=>cs.toList.all (zm n)
 |_+1,.float _ _=>true
 |_+1,.complex _ _ _=>true
 |_+1,.map none=>true
 |_+1,.chan none=>true
 |_+1,v=>CQ v
theorem LF:∀(n:Nat) (v:Value),zm n v=true→mv ρ v=v:=by
 intro n;induction n with
 |zero=>intro v h;cases h
 |succ n ih=>
  have all:∀cs:Array Value,cs.toList.all (zm n)=true→cs.map (mv ρ)=cs:=by intro cs h;rw[List.all_eq_true]at h;have:cs.map (mv ρ)=cs.map id:=Array.map_congr_left fun x hx=>ih x (h x (by simpa using hx));simpa using this
  intro v h;cases v<;>try exact vR h
  case agg cs=>simp only[mv];rw[all cs h]
  case tuple cs=>simp only[mv];rw[all cs h]
  case float=>simp[mv]
  case complex=>simp[mv]
  case map r=>cases r with
   |none=>simp[mv]
   |some r=>cases h
  case chan r=>cases r with
   |none=>simp[mv]
   |some r=>cases h
def zeros (ts:List TypeInfo):Bool:=ts.all fun i=>match i.zero with|none=>true|some v=>zm 9 v
theorem Ar (h:zeros P.types.toList=true):∀t i v,P.info? t=some i→i.zero=some v→mv ρ v=v:=by
 refine Aq fun t i hi v hv=>?_;unfold zeros at h;rw[List.all_eq_true]at h
 have:=h i (by
  have:=Array.mem_of_getElem? hi
  simpa using this)
 rw[hv]at this;exact LF 9 v this
def zZ (fs:FuncId→Bool):Code→Bool
 | .skip=>true
 | .region _ ops _=>ops.toList.all fun o=>vQ fs o.op
 | .seq a b=>zZ fs a&&zZ fs b
 | .cond c a b=>gH c&&zZ fs a&&zZ fs b
 | .block _ b=>zZ fs b
 | .loop b=>zZ fs b
 | .scope b=>zZ fs b
 | .exit _=>true
 | .label _=>true
 | .goto _=>true
 | .ret=>true
 | .refuse _=>true
 | .rangeFunc .. =>false
theorem Rs (fs:FuncId→Bool) (c:Code):zZ fs c=x8 fs c:=by induction c<;>simp_all [zZ,x8]
def sU (g:Tmp→Bool):Code→Bool
 | .region _ ops _=>ops.toList.all fun o=>Vg g o
 | .seq a b=>sU g a&&sU g b
 | .cond _ a b=>sU g a&&sU g b
 | .block _ b=>sU g b
 | .loop b=>sU g b
 | .scope b=>sU g b
 | .rangeFunc .. =>false
 |_=>true
theorem O3 (g:Tmp→Bool) (c:Code):sU g c=nX g c:=by induction c<;>simp_all [sU,nX]
def Ve (fs:FuncId→Bool) (g:Tmp→Bool) (fn:Func):Bool:=
 (match fn.body with|some c=>zZ fs c&&sU g c|none=>true)&&fn.results.toList.all (Lu g)&& !(fn.name== "runtime.NumGoroutine")
theorem Py {f:FuncId} {fn:Func} {c:Code} (hf:P.funcs[f]? =some fn) (hb:fn.body=some c) (hn:(fn.name== "runtime.NumGoroutine")=false) (h:fs f=true) (args:Array Value):
 SN P ρ fs (callFunc f args) (callFunc f (args.map (mv ρ))):=by
 unfold callFunc;refine nR fun _=>?_;simp only[hf,hn,hb,Option.isNone_some,Bool.false_eq_true, ↓reduceIte];exact af ⟨rfl,h⟩
theorem Pz {f:FuncId} {fn:Func} {e:Array Value→Sem Value} (hf:P.funcs[f]? =some fn) (hb:fn.body=none) (hn:(fn.name== "runtime.NumGoroutine")=false) (hx:Extern.findNext fn=none) (he:Extern.find fn=some e) (args:Array Value)
 (h:SV P ρ (e args) (e (args.map (mv ρ)))):SN P ρ fs (callFunc f args) (callFunc f (args.map (mv ρ))):=by
 unfold callFunc;refine nR fun _=>?_;simp only[hf,hn,hb,Option.isNone_none,Bool.false_eq_true, ↓reduceIte];refine SR.az (CY (.extern f) rfl) fun _=>?_;simp only[hx,he];exact SR.kZ h fun v=>af ⟨rfl,trivial⟩
theorem map_mk (f:Value→Value) (l:List Value):Array.map f ⟨l⟩=⟨l.map f⟩:=by simp
theorem RJ (args:Array Value):SV P ρ (Extern.AbiNoEscape.same args) (Extern.AbiNoEscape.same (args.map (mv ρ))):=by
 obtain⟨l⟩:=args;rw[map_mk]
 match l with
 | []=>exact ae
 | [x]=>exact af rfl
 |_::_::_=>exact ae
theorem Ac (len:Nat):∀(a:Addr) (acc:ByteArray),SE P ρ (Extern.Bytes.loadBytes a len acc) (Extern.Bytes.loadBytes (bW ρ a) len acc):=by
 induction len with
 |zero=>intro a acc;exact af rfl
 |succ n ih=>
  intro a acc;unfold Extern.Bytes.loadBytes;refine SR.kZ (yc a _) fun v=>?_;cases v<;>simp only[mv]<;>first|exact ae|skip
  rename_i k b;cases k<;>first|exact ae|skip
  rw[jN];exact ih _ _
theorem Iq (v:Value):SE P ρ (Extern.Bytes.bytesOf v) (Extern.Bytes.bytesOf (mv ρ v)):=by
 cases v<;>simp only[mv,Extern.Bytes.bytesOf]<;>first|exact af rfl|exact ae|skip
 rename_i a l c;cases a with
 |none=>exact af rfl
 |some a=>exact Ac _ _ _
theorem Ma (v:Value):SE P ρ (Extern.Bytes.asByte v) (Extern.Bytes.asByte (mv ρ v)):=by
 cases v<;>simp only[mv,Extern.Bytes.asByte]<;>first|exact ae|skip
 rename_i k n;cases k<;>first|exact ae|exact af rfl
theorem Dj (args:Array Value):SV P ρ (Extern.BytealgIndexByte.indexByte args) (Extern.BytealgIndexByte.indexByte (args.map (mv ρ))):=by
 obtain⟨l⟩:=args;rw[map_mk]
 match l with
 | []=>exact ae
 | [x]=>exact ae
 | [x,y]=>refine SR.az (Iq x) fun b=>SR.az (Ma y) fun c=>?_;split<;>exact af (by simp[goInt,mv])
 |_::_::_::_=>exact ae
def swap (a b:Nat) (x:Nat):Nat:=if x=a then b else if x=b then a else x
theorem swap_inj (a b x y:Nat) (h:swap a b x=swap a b y):x=y:=by unfold swap at h;split at h<;>split at h<;>(try split at h)<;>(try split at h)<;>omega
theorem I8 (a b n:Nat) (h:(a<n↔b<n)) (x:Nat):swap a b x<n↔x<n:=by
 unfold swap;split
 ·subst_vars;exact h.symm
 ·split
  ·subst_vars;exact h
  ·exact Iff.rfl
def uq (n:Nat) (τ:Nat→Nat):Prop:=∃a b,(a<n∧b<n)∧τ=swap a b
theorem U6 {l:List FuncId} {n:Nat} (hn:P.globals.size=n) (h7:7≤n) (hfs:∀f,fs f=true→f∈l) (hz:zeros P.types.toList=true) (hgo:fs fM=false) (hde:fs lS=false)
 (acf:∀f∈l,∃fn,P.funcs[f]? =some fn∧Ve fs (gs f) fn=true∧(fn.body=none→∀ρ args,SN P ρ fs (callFunc f args) (callFunc f (args.map (mv ρ))))):
 Kit P fs gs n (uq n):=by
 have parts:∀f,fs f=true→∃fn,P.funcs[f]? =some fn∧(∀c,fn.body=some c→x8 fs c=true∧nX (gs f) c=true)∧fn.results.all (Lu (gs f))=true∧(fn.name== "runtime.NumGoroutine")=false∧
  (fn.body=none→∀ρ args,SN P ρ fs (callFunc f args) (callFunc f (args.map (mv ρ)))):=by
  intro f hf;obtain⟨fn,h1,h2,h3⟩:=acf f (hfs f hf);unfold Ve at h2;simp only[Bool.and_eq_true]at h2;obtain⟨⟨h4,h5⟩,h6⟩:=h2;refine⟨fn,h1,fun c hc=>?_,by simpa using h5,by simpa using h6,h3⟩;rw[hc]at h4;simp only[Bool.and_eq_true]at h4;exact⟨Rs fs c▸h4.1,O3 _ c▸h4.2⟩
 have okf:∀ρ,QC P ρ fs:=by
  intro ρ f hf args;obtain⟨fn,h1,h2,h3,h4,h5⟩:=parts f hf;cases hb:fn.body with
  |none=>exact h5 hb ρ args
  |some c=>exact Py h1 hb h4 hf args
 have okg:∀ρ,(∀a b,ρ a=ρ b→a=b)→(∀b,ρ b<n↔b<n)→OkG P ρ:=fun ρ h1 h2=>{inj:=h1,zero:=Ar hz,Q5:=by rw[hn];exact h2};refine⟨⟨by omega,by omega,fun ρ h1 h2=>?_,fun _=>hgo⟩,hgo,hde,⟨fun f hf=>?_⟩,⟨fun τ eY=>?_,fun b hb=>?_,by omega⟩⟩
 ·refine{toOkG:=okg ρ h1 fun b=>?_,fix:=fun b hb=>h2 b (by omega),calls:=okf ρ,body:=fun f hf=>?_}
  ·constructor
   ·intro h;have:=h2 (ρ b) (by omega);have:=h1 _ _ this;omega
   ·intro h;rw[h2 b (by omega)];exact h
  ·obtain⟨fn,h3,h4,_⟩:=parts f hf;exact⟨fn,h3,fun c hc=>(h4 c hc).1⟩
 ·obtain⟨fn,h3,h4,h5,_⟩:=parts f hf;exact⟨fn,h3,fun c hc=>(h4 c hc).2,h5⟩
 ·obtain⟨a,b,hab,rfl⟩:=eY;exact⟨okg _ (swap_inj a b) (I8 a b n (by omega)),okf _⟩
 ·refine⟨swap b (if b=0 then 1 else 0),⟨b,_,⟨hb,by split<;>omega⟩,rfl⟩,?_⟩;unfold swap;rw[if_pos rfl];split<;>omega
end Go.Ren
