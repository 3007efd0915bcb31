import Derived.Test.YtheibfffilomcabGreatDoorR14U
set_option linter.all false
set_option maxHeartbeats 1000000
namespace Go.Ren
set_option linter.unusedSimpArgs false
set_option linter.unusedVariables false
variable {P:Program} {ρ:Nat→Nat}
def Zw (ρ:Nat→Nat):Target→Target
 | .fn fn c=>.fn fn (c.map (mv ρ))
 |t=>t
def zU (ρ:Nat→Nat) (d:Deferred):Deferred:={target:=Zw ρ d.target,args:=d.args.map (mv ρ)}
def za (ρ:Nat→Nat):Next→Next
 | .value v=>.value (mv ρ v)
 | .enter f args=>.enter f (args.map (mv ρ))
 | .defer d=>.defer (zU ρ d)
 | .spawn d=>.spawn (zU ρ d)
 |n=>n
def okD (fs:FuncId→Bool) (d:Deferred):Prop:=
 match d.target with
 | .fn (.func f) _=>fs f=true
 |_=>False
def fM:FuncId:=1000000007
def lS:FuncId:=1000000009
def Vf (fs:FuncId→Bool):Next→Prop
 | .value _=>True
 | .skip=>True
 | .spawn _=>fs fM=true
 | .enter f _=>fs f=true
 | .defer d=>okD fs d∧fs lS=true
 |_=>False
abbrev SN (P:Program) (ρ:Nat→Nat) (fs:FuncId→Bool) (s s':Sem Next):Prop:=SR P ρ (fun n n'=>n'=za ρ n∧Vf fs n) s s'
def CQ:Value→Bool
 | .bool _=>true
 | .int _ _=>true
 | .string _=>true
 | .pointer none=>true
 | .slice none _ _=>true
 | .nilIface=>true
 | .nilFunc=>true
 |_=>false
theorem vR {v:Value} (h:CQ v=true):mv ρ v=v:=by
 cases v with
 |bool=>simp only[mv]
 |int=>simp only[mv]
 |string=>simp only[mv]
 |nilIface=>simp only[mv]
 |nilFunc=>simp only[mv]
 |pointer a=>cases a with
  |none=>simp[mv]
  |some a=>cases h
 |slice a l c=>cases a with
  |none=>simp[mv]
  |some a=>cases h
 |_=>cases h
def gH:Operand→Bool
 | .const v=>CQ v
 | .global g=>decide (g<7)
 |_=>true
def okB:Builtin→Bool
 | .append=>true
 | .clear=>true
 | .copy=>true
 | .len=>true
 | .max=>true
 | .min=>true
 | .unsafeString=>true
 | .unsafeSliceData=>true
 |_=>false
def CJ (fs:FuncId→Bool) (c:Call):Bool:=
 c.args.all gH&&match c.callee with
  | .builtin b=>okB b
  | .value (.func f)=>fs f
  |_=>false
def vQ (fs:FuncId→Bool):Op→Bool
 | .move x| .assign x| .box _ x| .load _ x| .nilCheck x| .unOp _ _ x| .convert _ _ x| .makeInterface _ x| .fieldAddr _ x _| .field _ x _| .extract x _| .panic x=>gH x
 | .alloc _=>true
 | .pick a b c=>gH a&&gH b&&gH c
 | .build _ ps=>ps.all fun x=>gH x.2
 | .buildSlice _ _ ps=>ps.all fun x=>gH x.2
 | .store _ a b| .binOp _ _ a b _| .makeSlice _ a b| .indexAddr _ a b| .index _ a b=>gH a&&gH b
 | .slice _ x l h m=>gH x&&l.all gH&&h.all gH&&m.all gH
 | .makeFunc _ a b=>a.all gH&&b.all gH
 | .call c=>CJ fs c
 | .defer c=>c.args.all gH&&fs lS&&match c.callee with| .value (.func f)=>fs f|_=>false
 | .go c=>c.args.all gH&&fs fM&&match c.callee with| .value x=>gH x|_=>false
 |_=>false
theorem kV {fs:FuncId→Bool} {s s':Sem Value} (h:SV P ρ s s'):SN P ρ fs (do Pure.pure (.value (←s))) (do Pure.pure (.value (←s'))):=SR.kZ h fun v=>af ⟨rfl,trivial⟩
theorem adh {fs:FuncId→Bool} {s s':Sem Unit} (h:SE P ρ s s'):SN P ρ fs (do s;Pure.pure .skip) (do s';Pure.pure .skip):=SR.az h fun v=>af ⟨rfl,trivial⟩
theorem II {fs:FuncId→Bool} (H:OkG P ρ) (b:Builtin) (hb:okB b=true) (ts:Array TypeId) (t:TypeId) (cs:Array Bool) (args:Array Value):SN P ρ fs (builtin b ts t cs args) (builtin b ts t cs (args.map (mv ρ))):=by
 cases b<;>first|cases hb|skip
 ·exact kV (Mq H.toOkP ts t args)
 ·exact kV (PS H.toOkP ts t args)
 ·exact kV (RF ts t args)
 ·exact kV (VM ts t args)
 ·exact kV (VN ts t args)
 ·exact kV (VO ts t args)
 ·exact kV (tX ts t args)
 ·exact kV (xV ts t args)
theorem zI:SV P ρ (runtimePanic .panicNil) (runtimePanic .panicNil):=by refine nR fun _=>?_;refine SR.az (vW _) fun e=>?_;have:=wD (P:=P) (ρ:=ρ) e (.agg #[]);rw[show mv ρ (.agg #[])= .agg #[] by simp[mv]]at this;refine SR.bnd this fun a a' ea=>?_;subst ea;have:=tT (P:=P) (ρ:=ρ) (Q:=fun(x y:Value)=>y=mv ρ x) (.iface P.rt.panicNilError (.pointer (some a)));simp only[mv,Option.map_some]at this;exact this
theorem CO (w:World) (es:Array Event):CL ((runtimePanic .panicNil:Sem Value).runT P w es).1:=by
 unfold runtimePanic elemOf underlying newVar newRow newObj goPanic program;simp only[bind,Sem.bind,pure,Sem.runT];cases P.underlying P.rt.panicNilError with
 |none=>exact trivial
 |some d=>cases d<;>exact trivial
theorem PV (x:Value):SV P ρ (Instr.panic x) (Instr.panic (mv ρ x)):=by
 cases x<;>simp only[mv]<;>first|exact ae|skip
 ·rename_i t v;have:=tT (P:=P) (ρ:=ρ) (Q:=fun(a b:Value)=>b=mv ρ a) (.iface t v);simp only[mv]at this;exact this
 ·have nf:SV P ρ (goPanic .nilIface) (goPanic .nilIface):=xA _ (by simp[mv]);refine SR.env (fun r w es=>?_) fun r=>?_
  ·cases r<;>first|exact trivial|skip
   rename_i l;simp only[Sem.bind,bind,pure,program,sys,Sem.runT];split
   ·exact trivial
   ·exact CO _ _
  ·cases r<;>first|exact .dead trivial|skip
   refine SR.program ?_;simp only[Sem.bind,bind,pure,program,sys];split
   ·exact nf
   ·exact zI
end Go.Ren
namespace Go.Ren
set_option linter.unusedSimpArgs false
set_option linter.unusedVariables false
variable {P:Program} {ρ:Nat→Nat}
def FbR (ρ:Nat→Nat) (x y:Except (Option Bool) (TypeId × Option Value)):Prop:=y=x.map fun z=>(z.1,z.2.map (mv ρ))
theorem zD:∀(l:List FieldStep) (t:TypeId) (x:Option Value),SR P ρ (FbR ρ) (followBlind l t x) (followBlind l t (x.map (mv ρ))):=by
 intro l;induction l with
 |nil=>intro t x;exact af rfl
 |cons s l ih=>
  intro t x;unfold followBlind;refine SR.az (aF s.struct) fun d=>?_;cases d<;>first|exact ae|skip
  rename_i fields;dsimp only;cases fields[s.index]? with
  |none=>exact ae
  |some f=>
   dsimp only;cases s.deref with
   |true=>
    cases x with
    |none=>exact af rfl
    |some v=>
     simp only[Option.map_some];cases v with
     |pointer p=>cases p with
      |none=>simp only[mv,Option.map_none];exact af rfl
      |some p=>simp only[mv,Option.map_some];exact ih _ none
     |_=>exact ae
   |false=>
    cases x with
    |none=>exact ih _ none
    |some v=>
     simp only[Option.map_some];cases v with
     |agg cs=>simp only[mv];exact SR.kZ (jS _ _ _) fun v=>ih _ (some v)
     |_=>exact ae
theorem FC:∀(n:Nat) (t:TypeId) (v:Value) (name:String),SE P ρ (nilAhead n t v name) (nilAhead n t (mv ρ v) name):=by
 intro n;induction n with
 |zero=>intro t v name;exact af rfl
 |succ n ih=>
  intro t v name;unfold nilAhead;refine SR.az (dU t) fun i=>?_;split
  ·rename_i m _;refine SR.bnd (zD m.path.toList t (some v)) fun x y e=>?_;unfold FbR at e;subst e;cases x with
   |error r=>exact af rfl
   |ok z=>
    obtain⟨xt,x⟩:=z;simp only[Except.map];cases m.func with
    |none=>
     cases x with
     |none=>exact af rfl
     |some w=>
      simp only[Option.map_some];cases w with
      |iface t' v'=>simp only[mv];exact ih _ _ _
      |nilIface=>simp only[mv];exact af rfl
      |_=>exact ae
    |some fp=>
     obtain⟨f,p⟩:=fp;cases p with
     |true=>exact af rfl
     |false=>
      refine SR.az (aF xt) fun d=>?_;cases d<;>first|exact af rfl|skip
      cases x with
      |none=>exact af rfl
      |some w=>
       simp only[Option.map_some];cases w with
       |pointer p=>cases p<;>simp only[mv,Option.map_none,Option.map_some]<;>exact af rfl
       |_=>simp only[mv];exact af rfl
  ·exact ae
theorem FK {fs:FuncId→Bool} (x:Value):SN P ρ fs (match x with
 | .pointer none| .nilIface| .nilFunc=>runtimePanic .nilDeref
 | .func (.method name) first captured=>
   match (first[0]? :Option Value)with
   |some .nilIface=>runtimePanic .nilDeref
   |some (.iface t w)=>do
    if(←nilAhead ((←program).types.size+Made.depth) t w name) != some false then
     unsupported (.noEntry "op/nilCheck.the method's receiver behind this interface value is a nil pointer, or cannot be seen to be none, and the arguments act or may panic (ledger 612)")
    Pure.pure (.value (.func (.method name) first captured))
   |_=>Pure.pure (.value (.func (.method name) first captured))
 |x=>Pure.pure (.value x)) (match mv ρ x with
 | .pointer none| .nilIface| .nilFunc=>runtimePanic .nilDeref
 | .func (.method name) first captured=>
   match (first[0]? :Option Value)with
   |some .nilIface=>runtimePanic .nilDeref
   |some (.iface t w)=>do
    if(←nilAhead ((←program).types.size+Made.depth) t w name) != some false then
     unsupported (.noEntry "op/nilCheck.the method's receiver behind this interface value is a nil pointer, or cannot be seen to be none, and the arguments act or may panic (ledger 612)")
    Pure.pure (.value (.func (.method name) first captured))
   |_=>Pure.pure (.value (.func (.method name) first captured))
 |x=>Pure.pure (.value x)):=by
 cases x with
 |pointer p=>cases p<;>simp only[mv,Option.map_none,Option.map_some]<;>first|exact b_ _ rfl|exact af ⟨by simp[za,mv],trivial⟩
 |nilIface=>simp only[mv];exact b_ _ rfl
 |nilFunc=>simp only[mv];exact b_ _ rfl
 |func fn first captured=>
  simp only[mv];cases fn<;>first|exact af ⟨by simp[za,mv],trivial⟩|skip
  rename_i name;dsimp only;rw[Array.getElem?_map];have fin:SN P ρ fs (Pure.pure (.value (.func (.method name) first captured))) (Pure.pure (.value (.func (.method name) (first.map (mv ρ)) (captured.map (mv ρ))))):=af ⟨by simp[za,mv],trivial⟩;cases first[0]? with
  |none=>exact fin
  |some w=>
   simp only[Option.map_some];cases w with
   |nilIface=>simp only[mv];exact b_ _ rfl
   |iface t w=>
    simp only[mv];refine nR fun _=>SR.az (FC _ t w name) fun b=>?_;split
    ·exact dO (by simp)
    ·exact fin
   |_=>simp only[mv];exact fin
 |_=>simp only[mv];exact af ⟨by simp[za,mv],trivial⟩
end Go.Ren
namespace Go.Ren
set_option linter.unusedSimpArgs false
set_option linter.unusedVariables false
variable {P:Program} {ρ:Nat→Nat}
structure M9 (ρ:Nat→Nat) (e e':Operand→Value):Prop where
 ok:∀x,gH x=true→e' x=mv ρ (e x)
 fn:∀f,e (.func f)= .func (.func f) #[] #[]
theorem M9.args {e e':Operand→Value} (h:M9 ρ e e') {l:Array Operand} (hl:l.all gH=true):l.map e'=(l.map e).map (mv ρ):=by
 rw[Array.map_map];apply Array.map_congr_left;intro x hx
 exact h.ok x (by
  rw[Array.all_eq_true']at hl
  exact hl x hx)
theorem M9.parts {e e':Operand→Value} (h:M9 ρ e e') {l:Array (Nat × Operand)} (hl:(l.all fun x=>gH x.2)=true):(l.map fun(i,x)=>(i,e' x))=(l.map fun(i,x)=>(i,e x)).map fun x=>(x.1,mv ρ x.2):=by
 rw[Array.map_map];apply Array.map_congr_left;intro x hx
 have:=h.ok x.2 (by
  rw[Array.all_eq_true']at hl
  exact hl x hx)
 simp[this]
theorem M9.opt {e e':Operand→Value} (h:M9 ρ e e') {l:Option Operand} (hl:l.all gH=true):l.map e'=(l.map e).map (mv ρ):=by
 cases l with
 |none=>rfl
 |some x=>simp only[Option.map_some];rw[h.ok x (by simpa using hl)]
theorem IM {e e':Operand→Value} (h:M9 ρ e e') (c:Call) (t:TypeId) (ha:c.args.all gH=true) (hc:match c.callee with| .builtin _=>True| .value x=>gH x=true|_=>False):
 SR P ρ (fun d d'=>d'=zU ρ d) (resolve e c t) (resolve e' c t):=by
 unfold resolve;rw[h.args ha];cases hcc:c.callee with
 |builtin b=>exact af (by simp[zU,Zw])
 |value x=>rw[hcc]at hc;dsimp only;rw[h.ok x hc];cases e x<;>simp only[mv,Deferred.ofValue]<;>first|exact ae|exact af (by simp[zU,Zw])
 |invoke r m=>rw[hcc]at hc;exact hc.elim
def QC (P:Program) (ρ:Nat→Nat) (fs:FuncId→Bool):Prop:=∀f,fs f=true→∀args,SN P ρ fs (callFunc f args) (callFunc f (args.map (mv ρ)))
theorem Rz (H:OkG P ρ) {fs:FuncId→Bool} (hf:QC P ρ fs) {e e':Operand→Value} (h:M9 ρ e e') (c:Call) (t:TypeId) (hc:CJ fs c=true):
 SN P ρ fs (do let d ←resolve e c t;invoke d.target d.args) (do let d ←resolve e' c t;invoke d.target d.args):=by
 unfold CJ at hc;rw[Bool.and_eq_true]at hc;obtain⟨ha,hc⟩:=hc;unfold resolve;rw[h.args ha];cases hcc:c.callee with
 |builtin b=>rw[hcc]at hc;exact II H b hc _ _ _ _
 |value x=>
  rw[hcc]at hc;cases x with
  |func f=>dsimp only;rw[h.ok (.func f) rfl,h.fn f];simp only[mv,Array.map_empty];have:=hf f hc (c.args.map e);show SN P ρ fs (callFunc f ((#[]++c.args.map e)++ #[])) (callFunc f ((#[]++(c.args.map e).map (mv ρ))++ #[]));simpa using this
  |_=>cases hc
 |invoke r m=>rw[hcc]at hc;cases hc
theorem Fu (t:TypeId) (x y:Operand) (a b:Value):SE P ρ (eqGuard .eql t x y a b) (eqGuard .eql t x y (mv ρ a) (mv ρ b)):=by
 unfold eqGuard;simp only[Bool.not_true,Bool.false_eq_true, ↓reduceIte]
 ·cases a with
  |nilIface=>
   simp only[mv];cases b with
   |nilIface=>
    simp only[mv];have:=uW (P:=P) (ρ:=ρ) Op.maxDepth t .nilIface .nilIface;simp only[mv]at this
    have fin:∀c:Bool,SE P ρ (if c=true then Pure.pure ()else do
     if ←Op.eqGuardIn Op.maxDepth t .nilIface .nilIface then unsupported (.noEntry "binop/eql: two nil values of an interface type with methods, neither of them the literal nil")) (if c=true then Pure.pure ()else do
     if ←Op.eqGuardIn Op.maxDepth t .nilIface .nilIface then unsupported (.noEntry "binop/eql: two nil values of an interface type with methods, neither of them the literal nil")):=by
     intro c;cases c with
     |true=>exact af rfl
     |false=>
      refine SR.az this fun b=>?_;split
      ·exact aB (by simp)
      ·exact af rfl
    exact fin _
   |_=>simp only[mv];exact af rfl
  |agg xs=>
   simp only[mv];cases b with
   |agg ys=>
    simp only[mv];refine SR.az f_ fun p=>SR.az f_ fun p'=>?_;split
    ·exact af rfl
    ·have:=uW (P:=P) (ρ:=ρ) Op.maxDepth t (.agg xs) (.agg ys);simp only[mv]at this;refine SR.az this fun b=>?_;split
     ·exact aB (by simp)
     ·exact af rfl
   |_=>simp only[mv];exact af rfl
  |_=>simp only[mv];first|exact af rfl|(cases b<;>simp only[mv]<;>exact af rfl)
theorem Iu (op:BinOp) (t:TypeId) (x y:Operand) (a b:Value):SE P ρ (eqGuard op t x y a b) (eqGuard op t x y (mv ρ a) (mv ρ b)):=by have m:=Fu (P:=P) (ρ:=ρ) t x y a b;cases op<;>first|exact af rfl|exact m
theorem vZ (H:OkG P ρ) {fs:FuncId→Bool} (hf:QC P ρ fs) {e e':Operand→Value} (h:M9 ρ e e') (o:Oper) (ho:vQ fs o.op=true):SN P ρ fs (execOp e o) (execOp e' o):=by
 unfold execOp;cases hop:o.op<;>rw[hop]at ho<;>(try (cases ho;done))<;>simp only[vQ,Bool.and_eq_true]at ho<;>dsimp only
 case move x=>rw[h.ok x ho];exact af ⟨rfl,trivial⟩
 case assign x=>rw[h.ok x ho];exact af ⟨rfl,trivial⟩
 case pick a b c=>rw[h.ok _ ho.1.1,h.ok _ ho.1.2,h.ok _ ho.2];refine SR.az (rU _) fun t=>?_;cases t<;>exact af ⟨rfl,trivial⟩
 case alloc t=>exact kV (PN H.toOkP t)
 case box t x=>rw[h.ok x ho];exact kV (VL _ _)
 case build t ps=>rw[h.parts ho];exact kV (PR H.toOkP _ _)
 case buildSlice t n ps=>rw[h.parts ho];exact kV (Ai H.toOkP _ _ _)
 case load t x=>rw[h.ok x ho];exact kV (Mw _ _)
 case store t a b=>rw[h.ok _ ho.1,h.ok _ ho.2];exact adh (Iz _ _ _)
 case nilCheck x=>rw[h.ok x ho];exact FK _
 case binOp op t a b t'=>rw[h.ok _ ho.1,h.ok _ ho.2];exact kV (SR.az (Iu _ _ _ _ _ _) fun _=>PO H _ _ _ _)
 case unOp op t x=>rw[h.ok x ho];exact kV (PX _ _)
 case convert s d x=>rw[h.ok x ho];exact kV (IY _ _ _)
 case makeInterface t x=>rw[h.ok x ho];exact kV (wH _ _)
 case makeFunc fn a b=>rw[h.args ho.1,h.args ho.2];exact kV (FV _ _ _)
 case makeSlice t a b=>rw[h.ok _ ho.1,h.ok _ ho.2];exact kV (Dl H.toOkP _ _ _)
 case slice t x l hi m=>rw[h.ok _ ho.1.1.1,h.opt ho.1.1.2,h.opt ho.1.2,h.opt ho.2];exact kV (I7 _ _ _ _ _)
 case fieldAddr t x f=>rw[h.ok x ho];exact kV (I4 _ _ _)
 case field t x f=>rw[h.ok x ho];exact kV (PT _ _ _)
 case indexAddr t a b=>rw[h.ok _ ho.1,h.ok _ ho.2];exact kV (I5 _ _ _)
 case index t a b=>rw[h.ok _ ho.1,h.ok _ ho.2];exact kV (PU _ _ _)
 case extract x i=>rw[h.ok x ho];exact kV (I1 _ _)
 case call c=>exact Rz H hf h c _ ho
 case go c=>
  refine SR.bnd (IM h c _ ho.1.1 ?_) fun d d' e=>af ⟨by rw[e];rfl,ho.1.2⟩;have:=ho.2
  revert this
  cases c.callee<;>intro this<;>first|cases this|exact this
 case defer c=>
  have h2:=ho.2;have h3:=ho.1.2;unfold resolve;rw[h.args ho.1.1];cases hcc:c.callee with
  |builtin b=>rw[hcc]at h2;cases h2
  |value x=>
   rw[hcc]at h2;cases x with
   |func f=>dsimp only;rw[h.ok (.func f) rfl,h.fn f];simp only[mv,Array.map_empty];exact af ⟨by simp[za,zU,Zw],h2,h3⟩
   |_=>cases h2
  |invoke r m=>rw[hcc]at h2;cases h2
 case panic x=>rw[h.ok x ho];exact kV (PV _)
end Go.Ren
namespace Go.Ren
set_option linter.unusedSimpArgs false
set_option linter.unusedVariables false
variable {P:Program} {ρ:Nat→Nat} {fs:FuncId→Bool}
def gZ (ρ:Nat→Nat):FrameMode→FrameMode
 | .run=>.run
 | .returning=>.returning
 | .panicking ch=>.panicking (ch.map fun e=>{e with v:=mv ρ e.v})
def dL (ρ:Nat→Nat) (fr:Frame):Frame:={fr with tmps:=fr.tmps.map (mv ρ),defers:=fr.defers.map (zU ρ),mode:=gZ ρ fr.mode}
def x8 (fs:FuncId→Bool):Code→Bool
 | .skip=>true
 | .region _ ops _=>ops.all fun o=>vQ fs o.op
 | .seq a b=>x8 fs a&&x8 fs b
 | .cond c a b=>gH c&&x8 fs a&&x8 fs b
 | .block _ b=>x8 fs b
 | .loop b=>x8 fs b
 | .scope b=>x8 fs b
 | .exit _=>true
 | .label _=>true
 | .goto _=>true
 | .ret=>true
 | .refuse _=>true
 | .rangeFunc .. =>false
def xQ (fs:FuncId→Bool):Item→Bool
 | .code c=>x8 fs c
 | .inBlock _=>true
 | .inLoop b=>x8 fs b
 | .inScope b=>x8 fs b
 | .inRegion ops _=>ops.all fun o=>vQ fs o.op
 |_=>false
structure dZ (fs:FuncId→Bool) (fr:Frame):Prop where
 todo:∀i∈fr.todo,xQ fs i=true
 round:fr.roundOf=none
 defers:∀d∈fr.defers,okD fs d
structure OkS (P:Program) (ρ:Nat→Nat) (fs:FuncId→Bool):Prop extends OkG P ρ where
 fix:∀b,b<7→ρ b=b
 calls:QC P ρ fs
 body:∀f,fs f=true→∃fn,P.funcs[f]? =some fn∧∀c,fn.body=some c→x8 fs c=true
theorem iQ:mv ρ undef=undef:=by simp[undef,mv]
theorem JU (H:OkS P ρ fs) (fr:Frame):M9 ρ fr.eval (dL ρ fr).eval:=by
 refine⟨fun x hx=>?_,fun f=>rfl⟩;cases x with
 |tmp t=>
  simp only[Frame.eval,dL,Array.getD_eq_getD_getElem?,Array.getElem?_map];cases fr.tmps[t]? with
  |none=>simp[iQ]
  |some v=>rfl
 |const v=>exact(vR hx).symm
 |global g=>
  have:g<7:=by simpa[gH]using hx
  simp[Frame.eval,mv,bW,H.fix g this]
 |func f=>simp[Frame.eval,mv]
theorem Ji (ops:Array Oper) (tmps:Array Value) (j:Nat):yielded ops (tmps.map (mv ρ)) j=yielded ops tmps j:=by
 unfold yielded;cases (ops[j]?).bind (·.dst)with
 |none=>rfl
 |some d=>
  simp only[Option.bind_some,Array.getElem?_map];cases tmps[d]? with
  |none=>rfl
  |some v=>cases v<;>simp[mv]
def seenStep (P:Program) (x:Bool × Array Event) (e:Event):Bool × Array Event:=
 match e.loc with
 | .mark (.extern f)=>((P.funcs[f]?).any (·.norace),x.2)
 |_=>(x.1,if x.1&& !e.sync then x.2 else x.2.push e)
theorem seen_eq (fn:FuncId) (es:Array Event):Go.seen P fn es=(es.foldl (seenStep P) ((P.funcs[fn]?).any (·.norace),#[])).2:=rfl
theorem FE (q:Bool) (k:Array Event) (e:Event):seenStep P (q,k.map (lK ρ)) (lK ρ e)=((seenStep P (q,k) e).1,(seenStep P (q,k) e).2.map (lK ρ)):=by
 obtain⟨loc,wr,sy⟩:=e;have push:∀e:Event,(if q&& !e.sync then k.map (lK ρ)else(k.map (lK ρ)).push (lK ρ e))=(if q&& !e.sync then k else k.push e).map (lK ρ):=by intro e;split<;>simp
 have main:∀l:Loc,(∀f,l≠ .mark (.extern f))→seenStep P (q,k.map (lK ρ)) (lK ρ ⟨l,wr,sy⟩)=((seenStep P (q,k) ⟨l,wr,sy⟩).1,(seenStep P (q,k) ⟨l,wr,sy⟩).2.map (lK ρ)):=by
  intro l hl;have e1:seenStep P (q,k) ⟨l,wr,sy⟩=(q,if q&& !sy then k else k.push ⟨l,wr,sy⟩):=by
   unfold seenStep;split
   ·rename_i f h;exact absurd h (hl f)
   ·rfl
  have e2:seenStep P (q,k.map (lK ρ)) (lK ρ ⟨l,wr,sy⟩)=(q,if q&& !sy then k.map (lK ρ)else(k.map (lK ρ)).push (lK ρ ⟨l,wr,sy⟩)):=by
   unfold seenStep;split
   ·rename_i f h;cases l with
    |mark m=>cases m<;>first|exact absurd rfl (hl _)|(simp[lK,iq,We]at h)
    |_=>simp[lK,iq]at h
   ·rfl
  rw[e1,e2];exact Prod.ext rfl (push ⟨l,wr,sy⟩)
 by_cases h:∃f,loc= .mark (.extern f)
 ·obtain⟨f,rfl⟩:=h;rfl
 ·exact main loc fun f e=>h ⟨f,e⟩
theorem oZ (fn:FuncId) (es:Array Event):Go.seen P fn (es.map (lK ρ))=(Go.seen P fn es).map (lK ρ):=by
 have key:∀(l:List Event) (q:Bool) (k:Array Event),(l.map (lK ρ)).foldl (seenStep P) (q,k.map (lK ρ))=((l.foldl (seenStep P) (q,k)).1,(l.foldl (seenStep P) (q,k)).2.map (lK ρ)):=by
  intro l;induction l with
  |nil=>intro q k;rfl
  |cons e l ih=>intro q k;simp only[List.map_cons,List.foldl_cons];rw[FE];exact ih _ _
 have:=key es.toList ((P.funcs[fn]?).any (·.norace)) #[];simp only[Array.map_empty]at this;rw[seen_eq,seen_eq, ←Array.foldl_toList, ←Array.foldl_toList,Array.toList_map,this]
theorem vJ (fr:Frame) (v:Value) (h:∀i∈fr.todo,xQ fs i=true):(dL ρ fr).finish (mv ρ v)=dL ρ (fr.finish v):=by
 obtain⟨fn,tmps,todo,defers,mode,kind,round⟩:=fr;cases todo with
 |nil=>rfl
 |cons i k=>
  have:=h i (by simp);cases i<;>first|rfl|exact Bool.noConfusion this|skip
  rename_i ops l;cases l with
  |nil=>rfl
  |cons j l=>simp only[Frame.finish,dL];cases (ops[j]?).bind (·.dst)<;>simp
theorem j_ {fr:Frame} (h:dZ fs fr) (v:Value):dZ fs (fr.finish v):=by
 obtain⟨fn,tmps,todo,defers,mode,kind,round⟩:=fr;cases todo with
 |nil=>exact h
 |cons i k=>
  have:=h.todo i (by simp);cases i<;>first|exact h|exact Bool.noConfusion this|skip
  rename_i ops l;cases l with
  |nil=>exact h
  |cons j l=>
   refine⟨fun x hx=>?_,h.round,h.defers⟩;simp only[Frame.finish,List.mem_cons]at hx;rcases hx with rfl|hx
   ·exact this
   ·exact h.todo x (by simp[hx])
theorem yO (f:FuncId) (args:Array Value) (k:CallKind):Frame.enter P f (args.map (mv ρ)) k=dL ρ (Frame.enter P f args k):=by simp[Frame.enter,dL,iQ,gZ]
theorem oK (H:OkS P ρ fs) {f:FuncId} (hf:fs f=true) (args:Array Value) (k:CallKind):dZ fs (Frame.enter P f args k):=by
 refine⟨fun i hi=>?_,rfl,fun d hd=>by simp[Frame.enter]at hd⟩;obtain⟨fn,hfn,hb⟩:=H.body f hf;simp only[Frame.enter,hfn,Option.bind_some,List.mem_singleton]at hi;subst hi;cases hc:fn.body with
 |none=>rfl
 |some c=>exact hb c hc
end Go.Ren
namespace Go.Ren
set_option linter.unusedSimpArgs false
set_option linter.unusedVariables false
variable {P:Program} {ρ:Nat→Nat} {fs:FuncId→Bool}
def NP (V:World):Prop:=∀(b:Nat) (c:Array Value) (t:TypeId),V.heap[b]? ≠some (Obj.pending c t)
theorem NP.set {V:World} (h:NP V) (b:Nat) (o:Obj) (hp:∀c t,o≠ .pending c t):NP {V with heap:=V.heap.setIfInBounds b o}:=by
 intro x c t hx;by_cases e:x=b
 ·subst e;simp only[Array.getElem?_setIfInBounds_self]at hx;split at hx
  ·exact hp c t (by simpa using hx)
  ·cases hx
 ·simp only[Array.getElem?_setIfInBounds_ne (fun e'=>e e'.symm)]at hx;exact h x c t hx
theorem NP.modify {V:World} (h:NP V) (b:Nat) (f:Obj→Obj) (hp:∀o c t,f o= .pending c t→∃c' t',o= .pending c' t'):NP {V with heap:=V.heap.modify b f}:=by
 rw[modify_eq];cases hb:V.heap[b]? with
 |none=>exact h
 |some o=>refine h.set b (f o) fun c t e=>?_;obtain⟨c',t',rfl⟩:=hp o c t e;exact h b c' t' hb
theorem NP.setCell {V:World} (h:NP V) (a:Addr) (v:Value):NP (V.setCell a v):=h.modify _ _ fun o c t e=>by cases o<;>simp at e ⊢
theorem NP.freeze {V:World} (h:NP V) (a:Addr) (n:Nat):NP (V.freeze a n):=by
 unfold World.freeze;split
 ·exact h
 ·exact h.modify _ _ fun o c t e=>by cases o<;>simp at e ⊢
theorem NP.push {V:World} (h:NP V) (o:Obj) (hp:∀c t,o≠ .pending c t):NP {V with heap:=V.heap.push o}:=by
 intro x c t hx;simp only[Array.getElem?_push]at hx;split at hx
 ·exact hp c t (by simpa using hx)
 ·exact h x c t hx
theorem NP.noCell {V:World} (h:NP V) (a:Addr) (what:String):Ku (V.noCell a what):=by
 unfold World.noCell;split
 ·rename_i c t hb;exact absurd hb (h _ _ _)
 ·trivial
 ·trivial
theorem NP.farLoad {V:World} (h:NP V) {a:Addr} {b:Bool} {e:Halt} (hf:V.farLoad P a b= .error e):Ku e:=by
 unfold World.farLoad at hf;split at hf
 ·split at hf
  ·cases hf
  ·cases hf;trivial
 ·cases hf;exact h.noCell _ _
theorem NP.Bc {V:World} (h:NP V) {a:Addr} {v:Value} {b:Bool} {e:Halt} (hf:V.farStore P a v b= .error e):Ku e:=by
 unfold World.farStore at hf;split at hf
 ·split at hf
  ·cases hf
  ·cases hf;trivial
 ·cases hf;exact h.noCell _ _
theorem NP.farStore {V V':World} (h:NP V) {a:Addr} {v:Value} {b:Bool} {l:List Addr} (hf:V.farStore P a v b= .ok (V',l)):NP V':=by
 unfold World.farStore at hf;split at hf
 ·split at hf
  ·rename_i r hr;cases hf;unfold World.viewStore at hr;simp only[throwThe,MonadExceptOf.throw,MonadExcept.throw,bind,Except.bind,pure,Except.pure]at hr
   repeat' split at hr
   all_goals first|(cases hr;done)|skip
   all_goals (cases hr;exact h.set _ _ (by simp))
  ·cases hf
 ·cases hf
theorem SR.J7 {α β:Type} {Q:α→β→Prop} {s:Sem α} {s':Sem β} (h:SR P ρ Q s s'):∀(V:World) (es:Array Event),NP V→∀x w,(s.runT P V es).1= .halt x w→Ku x∨M_ x:=by
 induction h with
 |pure h=>intro V es hn x w hx;cases hx
 | @load m a k k' _ ih=>
   intro V es hn x w hx;simp only[Sem.runT]at hx;split at hx
   ·exact ih _ _ _ hn _ _ hx
   ·split at hx
    ·exact ih _ _ _ hn _ _ hx
    ·rename_i hf;cases hx;exact .inl (hn.farLoad hf)
 | @store m a v k k' _ ih=>
   intro V es hn x w hx;cases hv:one v with
   |false=>rw[gJ hv]at hx;cases hx;exact .inl trivial
   |true=>
    rw[jw hv]at hx;split at hx
    ·split at hx
     ·cases hx;exact .inl trivial
     ·exact ih _ _ (hn.setCell _ _) _ _ hx
    ·split at hx
     ·rename_i hf;exact ih _ _ (hn.farStore hf) _ _ hx
     ·rename_i hf;cases hx;exact .inl (hn.Bc hf)
 |new hp _ ih=>intro V es hn x w hx;exact ih _ _ _ (hn.push _ hp) _ _ hx
 |shape _ ih=>intro V es hn x w hx;exact ih _ _ _ hn _ _ hx
 |freeze _ ih=>intro V es hn x w hx;exact ih _ _ (hn.freeze _ _) _ _ hx
 |frozen _ ih=>intro V es hn x w hx;exact ih _ _ _ hn _ _ hx
 |getObj _ ih=>
  intro V es hn x w hx;simp only[Sem.runT]at hx;split at hx
  ·cases hx;exact .inl trivial
  ·exact ih _ _ _ hn _ _ hx
  ·cases hx;exact .inl trivial
 |setObj hp _ ih=>
  intro V es hn x w hx;simp only[Sem.runT]at hx;split at hx
  ·cases hx;exact .inl trivial
  ·exact ih _ _ (hn.set _ _ hp) _ _ hx
  ·cases hx;exact .inl trivial
 |env hp _ ih=>intro V es hn x w hx;simp only[Sem.runT,Dm]at hx;exact ih _ _ _ hn _ _ hx
 |choose _ ih=>
  intro V es hn x w hx;simp only[Sem.runT]at hx;split at hx
  ·exact ih _ _ _ hn _ _ hx
  ·exact ih _ {V with drawn:=V.drawn+1} _ hn _ _ hx
 |program _ ih=>intro V es hn x w hx;exact ih _ _ hn _ _ hx
 |mark _ _ ih=>intro V es hn x w hx;exact ih _ _ hn _ _ hx
 |halt hh=>intro V es hn x w hx;cases hx;exact .inr hh
 |dead hh=>intro V es hn x w hx;cases hx;exact .inl hh
theorem SR.oks {α β:Type} {Q:α→β→Prop} {s:Sem α} {s':Sem β} (h:SR P ρ Q s s'):∀(V:World) (es:Array Event) a w,(s.runT P V es).1= .ok a w→∃b,Q a b:=by
 induction h with
 |pure h=>intro V es a w hx;cases hx;exact⟨_,h⟩
 | @load m a k k' _ ih=>
   intro V es x w hx;simp only[Sem.runT]at hx;split at hx
   ·exact ih _ _ _ _ _ hx
   ·split at hx
    ·exact ih _ _ _ _ _ hx
    ·cases hx
 | @store m a v k k' _ ih=>
   intro V es x w hx;cases hv:one v with
   |false=>rw[gJ hv]at hx;cases hx
   |true=>
    rw[jw hv]at hx;split at hx
    ·split at hx
     ·cases hx
     ·exact ih _ _ _ _ hx
    ·split at hx
     ·exact ih _ _ _ _ hx
     ·cases hx
 |new hp _ ih=>intro V es x w hx;exact ih _ _ _ _ _ hx
 |shape _ ih=>intro V es x w hx;exact ih _ _ _ _ _ hx
 |freeze _ ih=>intro V es x w hx;exact ih _ _ _ _ hx
 |frozen _ ih=>intro V es x w hx;exact ih _ _ _ _ _ hx
 |getObj _ ih=>
  intro V es x w hx;simp only[Sem.runT]at hx;split at hx
  ·cases hx
  ·exact ih _ _ _ _ _ hx
  ·cases hx
 |setObj hp _ ih=>
  intro V es x w hx;simp only[Sem.runT]at hx;split at hx
  ·cases hx
  ·exact ih _ _ _ _ hx
  ·cases hx
 |env hp _ ih=>intro V es x w hx;exact ih _ _ _ _ _ hx
 |choose _ ih=>
  intro V es x w hx;simp only[Sem.runT]at hx;split at hx
  ·exact ih _ _ _ _ _ hx
  ·exact ih _ _ _ _ _ hx
 |program _ ih=>intro V es x w hx;exact ih _ _ _ _ hx
 |mark _ _ ih=>intro V es x w hx;exact ih _ _ _ _ hx
 |halt hh=>intro V es x w hx;cases hx
 |dead hh=>intro V es x w hx;cases hx
theorem Ib {d:Deferred} (h:okD fs d):okD fs (zU ρ d):=by
 obtain⟨t,a⟩:=d;cases t with
 |fn f c=>cases f with
  |func g=>exact h
  |_=>exact False.elim h
 |_=>exact False.elim h
theorem Rt {fr:Frame} (h:dZ fs fr):dZ fs (dL ρ fr):=by refine⟨h.todo,h.round,fun d hd=>?_⟩;simp only[dL,List.mem_map]at hd;obtain⟨d0,hd0,rfl⟩:=hd;exact Ib (h.defers d0 hd0)
end Go.Ren
namespace Go.Ren
set_option linter.unusedSimpArgs false
set_option linter.unusedVariables false
variable {P:Program} {ρ:Nat→Nat} {fs:FuncId→Bool}
def cz (f:Frame) (cs:List Frame) (st:GoStatus):Goroutine:={frame:=f,callers:=cs,status:=st,dying:=none}
def mP:GStep→World
 | .go _ w _=>w
 | .comm _ _ _ _ w _=>w
 | .spawn _ _ w _=>w
 | .count _ w _=>w
 | .timer _ _ w _=>w
 | .alone _ _ w _=>w
 | .newcoro _ _ _ w _=>w
 | .coroswitch _ _ _ w _=>w
 | .collect _ w _=>w
 | .watch _ w _=>w
 | .ended _ w _=>w
def xZ (P:Program) (d:Deferred):Goroutine:=cz {(default:Frame)with fn:=P.funcs.size,defers:=[d],mode:=.panicking [goexitEntry]} [] .running
inductive gB (P:Program) (ρ:Nat→Nat) (fs:FuncId→Bool) (cs cs':List Frame) (V W:World):GStep→GStep→Prop
 |go {f:Frame} {l:List Frame} {st:GoStatus} {V1 W1:World} {es:Array Event}:(st= .running∨st= .blocked)→dZ fs f→(∀x∈l,dZ fs x)→Out ρ V W V1 W1→
   (∀e∈es,mH V1.heap.size e.loc∨(e.loc= .output∧∃ch,f.mode= .panicking ch))→
   gB P ρ fs cs cs' V W (.go (cz f (l++cs) st) V1 es) (.go (cz (dL ρ f) (l.map (dL ρ)++cs') st) W1 (es.map (lK ρ)))
 |spawn {f:Frame} {l:List Frame} {d:Deferred} {V1 W1:World} {es:Array Event}:fs fM=true→dZ fs f→(∀x∈l,dZ fs x)→Out ρ V W V1 W1→(∀e∈es,mH V1.heap.size e.loc)→
   gB P ρ fs cs cs' V W (.spawn (cz f (l++cs) .running) (xZ P d) V1 es) (.spawn (cz (dL ρ f) (l.map (dL ρ)++cs') .running) (xZ P (zU ρ d)) W1 (es.map (lK ρ)))
 |bad {o:Outcome} {V1:World} {es:Array Event} {y:GStep}:gB P ρ fs cs cs' V W (.ended o V1 es) y
def Align (ρ:Nat→Nat) (V W V1:World):Prop:=
 (∀i,V.heap.size+i<V1.heap.size→ρ (V.heap.size+i)=W.heap.size+i)∧(∀i,V.drawn+i<V1.drawn→V.tape (V.drawn+i)=W.tape (W.drawn+i))
theorem mem_seen {fn:FuncId} {es:Array Event} {e:Event} (h:e∈Go.seen P fn es):e∈es:=by
 rw[seen_eq, ←Array.foldl_toList]at h;have key:∀(l:List Event) (x:Bool × Array Event),e∈(l.foldl (seenStep P) x).2→e∈x.2∨e∈l:=by
  intro l;induction l with
  |nil=>intro x hx;exact .inl hx
  |cons a l ih=>
   intro x hx;rcases ih _ hx with h1|h1
   ·unfold seenStep at h1;split at h1
    ·exact .inl h1
    ·simp only at h1;split at h1
     ·exact .inl h1
     ·rcases Array.mem_push.1 h1 with h2|h2
      ·exact .inl h2
      ·exact .inr (by simp[h2])
   ·exact .inr (by simp[h1])
 rcases key es.toList _ h with h1|h1
 ·simp at h1
 ·simpa using h1
theorem zq (fr:Frame) (vs:List PanicEntry):(dL ρ fr).raise (vs.map fun e=>{e with v:=mv ρ e.v})=dL ρ (fr.raise vs):=by obtain⟨fn,tmps,todo,defers,mode,kind,round⟩:=fr;cases mode<;>simp[Frame.raise,dL,gZ]
theorem uO {fr:Frame} (h:dZ fs fr) (vs:List PanicEntry):dZ fs (fr.raise vs):=by obtain⟨fn,tmps,todo,defers,mode,kind,round⟩:=fr;cases mode<;>exact⟨h.todo,h.round,h.defers⟩
theorem raise_mode (fr:Frame) (vs:List PanicEntry):∃ch,(fr.raise vs).mode= .panicking ch:=by obtain⟨fn,tmps,todo,defers,mode,kind,round⟩:=fr;cases mode<;>exact⟨_,rfl⟩
def evs (P:Program) (fr:Frame) (es:Array Event):Array Event:=Go.seen P fr.fn (if fr.kind== .early then #[]else es)
theorem tH (fr:Frame) (es:Array Event):evs P (dL ρ fr) (es.map (lK ρ))=(evs P fr es).map (lK ρ):=by unfold evs;rw[show(dL ρ fr).kind=fr.kind from rfl,show(dL ρ fr).fn=fr.fn from rfl, ←oZ];split<;>simp
theorem kF {fr:Frame} {es:Array Event} {e:Event} (h:e∈evs P fr es):e∈es:=by
 have:=mem_seen h;split at this
 ·simp at this
 ·exact this
section
variable {fr:Frame} {cs:List Frame} {s:Sem Next} {V V1:World} {es:Array Event}
theorem qL {v:Value} (h:s.runT P V #[]=(.ok (.value v) V1,es)):stepG.apply P true fr cs none s V= .go (cz (fr.finish v) cs .running) V1 (evs P fr es):=by simp[stepG.apply,h,GStep.after,evs,cz]
theorem tC (h:s.runT P V #[]=(.ok .skip V1,es)):stepG.apply P true fr cs none s V= .go (cz (fr.finish undef) cs .running) V1 (evs P fr es):=by simp[stepG.apply,h,GStep.after,evs,cz]
theorem qI (hok:dZ fs fr) {f:FuncId} {args:Array Value} (h:s.runT P V #[]=(.ok (.enter f args) V1,es)):
 stepG.apply P true fr cs none s V= .go (cz (Frame.enter P f args .normal) (fr::cs) .running) V1 (evs P fr es):=by
 obtain⟨fn,tmps,todo,defers,mode,kind,round⟩:=fr;cases todo with
 |nil=>simp[stepG.apply,h,GStep.after,evs,cz]
 |cons i k=>have:=hok.todo i (by simp);cases i<;>first|exact Bool.noConfusion this|simp[stepG.apply,h,GStep.after,evs,cz]
theorem wY {d:Deferred} (h:s.runT P V #[]=(.ok (.defer d) V1,es)):stepG.apply P true fr cs none s V= .go (cz ({fr with defers:=d::fr.defers}.finish undef) cs .running) V1 (evs P fr es):=by simp[stepG.apply,h,GStep.after,evs,cz]
theorem qK (hg:P.follows .goNilFatal=false) {d:Deferred} (h:s.runT P V #[]=(.ok (.spawn d) V1,es)):stepG.apply P true fr cs none s V= .spawn (cz (fr.finish undef) cs .running) (xZ P d) V1 (evs P fr es):=by simp[stepG.apply,h,GStep.after,evs,cz,xZ,hg]
theorem qJ {v:Value} (h:s.runT P V #[]=(.halt (.panic v) V1,es)):stepG.apply P true fr cs none s V= .go (cz (fr.raise [{v,recovered:=false}]) cs .running) V1 (evs P fr es):=by simp[stepG.apply,h,GStep.after,evs,cz]
theorem nS (h:s.runT P V #[]=(.halt .blocked V1,es)):stepG.apply P true fr cs none s V= .go (cz fr cs .blocked) V1 (evs P fr #[]):=by simp[stepG.apply,h,GStep.after,evs,cz]
theorem wZ {w:String} (h:s.runT P V #[]=(.halt (.stuck w) V1,es)):∃o x,stepG.apply P true fr cs none s V= .ended o V1 x:=by simp[stepG.apply,h,GStep.after]
theorem w_ {u:Unsupported} (hu:Ku (.unsupported u)) (h:s.runT P V #[]=(.halt (.unsupported u) V1,es)):∃o x,stepG.apply P true fr cs none s V= .ended o V1 x:=by cases u<;>first|exact hu.elim|simp[stepG.apply,h,GStep.after]
end
theorem pM (fr:Frame) (h:∀i∈fr.todo,xQ fs i=true):(dL ρ fr).finish undef=dL ρ (fr.finish undef):=by have:=vJ (ρ:=ρ) fr undef h;rwa[iQ]at this
theorem QH (H:OkS P ρ fs) {s s':Sem Next} (hs:SN P ρ fs s s') {fr:Frame} (hfr:dZ fs fr) {l:List Frame} (hl:∀x∈l,dZ fs x) {cs cs':List Frame} {V W:World} (hw:WR ρ V W)
 (ha:Align ρ V W (mP (stepG.apply P true fr (l++cs) none s V))) (hgo:P.follows .goNilFatal=true→fs fM=false):
 gB P ρ fs cs cs' V W (stepG.apply P true fr (l++cs) none s V) (stepG.apply P true (dL ρ fr) (l.map (dL ρ)++cs') none s' W):=by
 have run:=hs.runT H.inj V W #[] #[] hw;have kinds:=hs.J7 V #[] hw.kg;rcases hr:s.runT P V #[]with⟨r,es⟩;rcases hr':s'.runT P W #[]with⟨r',es'⟩;rw[hr]at run kinds;rw[hr']at run;have Ub:∀{d:Array Event} {V1:World} {r:Result Next},(∀e∈d,mH V1.heap.size e.loc∨(e.loc= .output∧CL r))→¬CL r→∀e∈evs P fr d,mH V1.heap.size e.loc:=
  fun h hn e he=>(h e (kF he)).resolve_right fun x=>hn x.2
 cases r with
 |halt h V1=>
  rcases kinds h V1 rfl with hb|hg
  ·cases h<;>first|exact hb.elim|skip
   ·obtain⟨o,x,e⟩:=w_ (P:=P) (fr:=fr) (cs:=l++cs) hb hr;rw[e];exact .bad
   ·obtain⟨o,x,e⟩:=wZ (P:=P) (fr:=fr) (cs:=l++cs) hr;rw[e];exact .bad
  ·cases h<;>first|exact hg.elim|skip
   ·rename_i v;rw[qJ hr]at ha ⊢;obtain⟨⟨d,e1,e2,e3⟩,res,o⟩:=run ha.1 ha.2 (fun x=>x);simp only[Array.empty_append]at e1 e2;cases r' with
    |ok b W1=>exact res.elim
    |halt h' W1=>obtain⟨rfl,_⟩:=res;rw[e1]at*;rw[e2]at hr';rw[qJ hr',tH];have rm:=zq (ρ:=ρ) fr [{v:=v,recovered:=false}];simp only[List.map_cons,List.map_nil]at rm;rw[rm];exact .go (.inl rfl) (uO hfr _) hl o fun e he=>(e3 e (kF he)).imp id fun x=>⟨x.1,raise_mode _ _⟩
   ·rw[nS hr]at ha ⊢;obtain⟨⟨d,e1,e2,e3⟩,res,o⟩:=run ha.1 ha.2 (fun x=>x);cases r' with
    |ok b W1=>exact res.elim
    |halt h' W1=>
     obtain⟨rfl,_⟩:=res;rw[nS hr'];have e4:evs P (dL ρ fr) #[]=(evs P fr #[]).map (lK ρ):=by have:=tH (P:=P) (ρ:=ρ) fr #[];simpa using this
     rw[e4];exact .go (.inr rfl) hfr hl o fun e he=>by have:=kF he;simp at this
 |ok n V1=>
  have nb:¬GM (Result.ok n V1):=fun x=>x;have np:¬CL (Result.ok n V1):=fun x=>x;have core:Align ρ V W V1→∃W1 d,es=d∧es'=d.map (lK ρ)∧(∀e∈d,mH V1.heap.size e.loc)∧r'= .ok (za ρ n) W1∧Vf fs n∧Out ρ V W V1 W1:=by
   intro h;obtain⟨⟨d,e1,e2,e3⟩,res,o⟩:=run h.1 h.2 nb;simp only[Array.empty_append]at e1 e2;cases r' with
   |halt h' W1=>exact res.elim
   |ok n' W1=>exact⟨W1,d,e1,e2,fun e he=>(e3 e he).resolve_right fun x=>np x.2,by rw[res.1],res.2,o⟩
  cases n with
  |value v=>rw[qL hr]at ha ⊢;obtain⟨W1,d,rfl,rfl,e3,rfl,_,o⟩:=core ha;rw[qL hr',tH,vJ fr v hfr.todo];exact .go (.inl rfl) (j_ hfr _) hl o fun e he=>.inl (e3 e (kF he))
  |skip=>rw[tC hr]at ha ⊢;obtain⟨W1,d,rfl,rfl,e3,rfl,_,o⟩:=core ha;rw[tC hr',tH,pM fr hfr.todo];exact .go (.inl rfl) (j_ hfr _) hl o fun e he=>.inl (e3 e (kF he))
  |enter f args=>
   rw[qI hfr hr]at ha ⊢;obtain⟨W1,d,rfl,rfl,e3,rfl,hok,o⟩:=core ha;simp only[za]at hr';rw[qI (Rt hfr) hr',tH,yO];have:=gB.go (P:=P) (ρ:=ρ) (fs:=fs) (cs:=cs) (cs':=cs') (V:=V) (W:=W) (f:=Frame.enter P f args .normal) (l:=fr::l) (st:=.running) (es:=evs P fr es) (.inl rfl) (oK H hok args .normal)
    (fun x hx=>by rcases List.mem_cons.1 hx with rfl|hx;exact hfr;exact hl x hx) o (fun e he=>.inl (e3 e (kF he)))
   simpa using this
  |defer d=>rw[wY hr]at ha ⊢;obtain⟨W1,dd,rfl,rfl,e3,rfl,hok,o⟩:=core ha;simp only[za]at hr';rw[wY hr',tH];have hfr2:dZ fs {fr with defers:=d::fr.defers}:=⟨hfr.todo,hfr.round,fun x hx=>by rcases List.mem_cons.1 hx with rfl|hx;exact hok.1;exact hfr.defers x hx⟩;have:=pM (ρ:=ρ) (fs:=fs) {fr with defers:=d::fr.defers} hfr.todo;rw[show({dL ρ fr with defers:=zU ρ d::(dL ρ fr).defers}:Frame)=dL ρ {fr with defers:=d::fr.defers} from rfl,this];exact .go (.inl rfl) (j_ hfr2 _) hl o fun e he=>.inl (e3 e (kF he))
  |spawn d=>
   have hgo:P.follows .goNilFatal=false:=by
    obtain⟨b,hb⟩:=hs.oks V #[] _ _ (by rw[hr]);have h2:fs fM=true:=hb.2;cases h:P.follows .goNilFatal with
    |false=>rfl
    |true=>rw[hgo h]at h2;cases h2
   rw[qK hgo hr]at ha ⊢;obtain⟨W1,dd,rfl,rfl,e3,rfl,hok,o⟩:=core ha;simp only[za]at hr';rw[qK hgo hr',tH,pM fr hfr.todo];exact .spawn hok (j_ hfr _) hl o fun e he=>e3 e (kF he)
  |_=>obtain⟨b,hb⟩:=hs.oks V #[] _ _ (by rw[hr]);exact hb.2.elim
end Go.Ren
