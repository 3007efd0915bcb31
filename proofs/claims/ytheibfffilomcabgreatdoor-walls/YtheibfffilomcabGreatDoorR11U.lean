import Derived.Test.YtheibfffilomcabGreatDoorR7U
import Derived.Laws.Sem
set_option linter.all false
set_option maxHeartbeats 4000000
namespace Go.Ren
set_option linter.unusedSimpArgs false
set_option linter.unusedVariables false
variable {P:Program} {ρ:Nat→Nat}
theorem PN (H:OkP P ρ) (t:TypeId):SV P ρ (Instr.alloc t true (.tuple #[])) (Instr.alloc t true (.tuple #[])):=by unfold Instr.alloc;refine SR.bnd (qc H t) fun v v' e=>?_;obtain⟨rfl,e⟩:=e;have:=wD (P:=P) (ρ:=ρ) t v';rw[e]at this;refine SR.bnd this fun a a' ea=>?_;exact af (by rw[ea];simp[mv])
theorem VL (t:TypeId) (v:Value):SV P ρ (Instr.box t v) (Instr.box t (mv ρ v)):=by refine SR.bnd (wD t v) fun a a' ea=>?_;exact af (by rw[ea];simp[mv])
theorem G9 (off:Nat):∀(l:List (Value × Nat)) (c:Array Value),(l.map fun x=>(mv ρ x.1,x.2)).foldl (fun cs x=>cs.setIfInBounds (off+x.2) x.1) (c.map (mv ρ))=(l.foldl (fun cs x=>cs.setIfInBounds (off+x.2) x.1) c).map (mv ρ):=by
 intro l;induction l with
 |nil=>intro c;rfl
 |cons x l ih=>intro c;simp only[List.map_cons,List.foldl_cons];rw[←ih];simp
theorem JW (place:Nat→Option (Nat × Nat)):∀(parts:List (Nat × Value)) (cells:Array Value),
 Instr.fill place (cells.map (mv ρ)) (parts.map fun x=>(x.1,mv ρ x.2))=(Instr.fill place cells parts).map (·.map (mv ρ)):=by
 intro parts;induction parts with
 |nil=>intro cells;simp[Instr.fill]
 |cons x parts ih=>
  intro cells;obtain⟨i,v⟩:=x;simp only[List.map_cons,Instr.fill,iO,Array.size_map];cases place i with
  |none=>rfl
  |some y=>
   obtain⟨off,size⟩:=y;simp only;split
   ·rfl
   ·rw[←ih]
    congr 1
    have:=G9 (ρ:=ρ) off v.cells.zipIdx.toList cells;rw[←Array.foldl_toList, ←Array.foldl_toList];rw[←this]
    congr 1
    simp[Array.zipIdx_map,Function.comp_def]
theorem Ry {α β:Type} (f:α→Sem β) (hf:∀a,SE P ρ (f a) (f a)):∀(l:List α),SE P ρ (l.mapM f) (l.mapM f):=by
 intro l;induction l with
 |nil=>exact af rfl
 |cons x l ih=>rw[List.mapM_cons];exact SR.az (hf x) fun y=>SR.az ih fun z=>af rfl
theorem Ps {α β:Type} (f:α→Sem β) (hf:∀a,SE P ρ (f a) (f a)) (l:Array α):SE P ρ (l.mapM f) (l.mapM f):=by rw[Array.mapM_eq_mapM_toList];exact SR.az (Ry f hf l.toList) fun z=>af rfl
theorem PR (H:OkP P ρ) (t:TypeId) (parts:Array (Nat × Value)):SV P ρ (Instr.build t parts) (Instr.build t (parts.map fun x=>(x.1,mv ρ x.2))):=by
 unfold Instr.build;refine SR.bnd (qc H t) fun v v' e=>?_;obtain⟨rfl,e⟩:=e;have hc:v'.cells=v'.cells.map (mv ρ):=by rw[←iO,e]
 refine SR.az (aF t) fun d=>?_;have fin:∀place why,SV P ρ (match Instr.fill place v'.cells parts.toList with|some c=>Pure.pure (.agg c)|_=>stuck why) (match Instr.fill place v'.cells (parts.map fun x=>(x.1,mv ρ x.2)).toList with|some c=>Pure.pure (.agg c)|_=>stuck why):=by
  intro place why;have:=JW (ρ:=ρ) place parts.toList v'.cells;rw[←hc]at this;rw[Array.toList_map,this];cases Instr.fill place v'.cells parts.toList with
  |none=>exact ae
  |some c=>exact af (by simp[mv])
 cases d<;>first|exact ae|skip
 ·exact SR.az (dm _) fun n=>fin _ _
 ·exact SR.az (Ps _ (fun f=>SR.az (dm _) fun n=>af rfl) _) fun pl=>fin _ _
theorem Hf (z:Array Value) (h:z.map (mv ρ)=z) (i:Nat):mv ρ z[i]! =z[i]! :=by
 rw[getElem!_def];have:z[i]?.map (mv ρ)=z[i]? :=by rw[←Array.getElem?_map,h]
 cases hz:z[i]? with
 |none=>show mv ρ (Value.bool default)=Value.bool default;simp only[mv]
 |some v=>rw[hz]at this;simpa using this
theorem pV (z:Array Value) (h:z.map (mv ρ)=z) (n:Nat):((Array.range n).map (z[· % z.size]!)).map (mv ρ)=(Array.range n).map (z[· % z.size]!):=by simp only[Array.map_map];apply Array.map_congr_left;intro i _;exact Hf z h _
theorem Ai (H:OkP P ρ) (t:TypeId) (len:Nat) (parts:Array (Nat × Value)):SV P ρ (Instr.buildSlice t len parts) (Instr.buildSlice t len (parts.map fun x=>(x.1,mv ρ x.2))):=by
 unfold Instr.buildSlice;refine SR.az (aF t) fun d=>?_;cases d<;>first|exact ae|skip
 rename_i elem;refine SR.az (dm elem) fun size=>?_;rw[Array.toList_map]
 refine SR.ite (dO (by simp)) (SR.ite (SR.bnd (Q:=fun z z':Array Value=>z'=z∧z.map (mv ρ)=z) (af ⟨rfl,by simp⟩) fun z z' e=>?_)
  (SR.bnd (qc H elem) fun v v' e=>SR.bnd (Q:=fun z z':Array Value=>z'=z∧z.map (mv ρ)=z) (af ⟨by rw[e.1],by rw[←iO,e.2]⟩) fun z z' e=>?_))
 all_goals
  obtain⟨rfl,hz⟩:=e;have f:=JW (ρ:=ρ) (fun i=>some (i*size,size)) parts.toList ((Array.range (len*size)).map (z'[· % z'.size]!));rw[pV z' hz]at f;dsimp only;rw[f];rcases Instr.fill (fun i=>some (i*size,size)) _ parts.toList with _|c
  ·exact ae
  ·exact SR.bnd (mq elem c) fun a a' e=>af (by rw[e];simp[mv])
theorem Mw (t:TypeId) (v:Value):SV P ρ (Instr.loadAt t v) (Instr.loadAt t (mv ρ v)):=
 SR.bnd (kW v) fun a a' e=>by rw[e];exact zH t a
theorem Iz (t:TypeId) (a v:Value):SE P ρ (Instr.storeAt t a v) (Instr.storeAt t (mv ρ a) (mv ρ v)):=
 SR.bnd (kW a) fun b b' e=>by rw[e];exact FQ t b v
theorem I4 (s:TypeId) (a:Value) (f:Nat):SV P ρ (Instr.fieldAt s a f) (Instr.fieldAt s (mv ρ a) f):=by
 unfold Instr.fieldAt;refine SR.az (aF s) fun d=>?_;cases d<;>first|exact ae|skip
 rename_i fields;dsimp only;cases fields[f]? with
 |none=>exact ae
 |some g=>refine SR.bnd (kW a) fun b b' e=>?_;rw[e];exact SR.bnd (Af b g) fun x x' e=>af (by rw[e];simp[mv])
theorem I5 (t:TypeId) (x i:Value):SV P ρ (Instr.indexAt t x i) (Instr.indexAt t (mv ρ x) (mv ρ i)):=by
 unfold Instr.indexAt;refine SR.az (p_ i) fun ki=>?_;obtain⟨k,n⟩:=ki;refine SR.az (aF t) fun d=>?_;cases d
 case' array len elem=>refine SR.bnd (kW x) fun a a' e=>SR.bnd (Q:=fun y y':Option Addr × Nat × TypeId=>y'=(y.1.map (bW ρ),y.2)) (af (by rw[e];rfl)) fun y y' e=>?_
 case' slice elem=>
  cases x<;>simp only[mv]<;>first|exact fI|skip
  refine SR.bnd (Q:=fun y y':Option Addr × Nat × TypeId=>y'=(y.1.map (bW ρ),y.2)) (af rfl) fun y y' e=>?_
 case array|slice=>
  obtain⟨a,len,elem⟩:=y;subst e;refine SR.az (aF t) fun d=>?_;cases a with
  |none=>exact iV _ _ _ _
  |some a=>exact SR.ite (SR.az (dm elem) fun s=>af (by simp[mv,jN])) (SR.ite (aB (by simp)) (iV _ _ _ _))
 all_goals cases x<;>exact fI
theorem kI (x:Value) (y:Nat) (c:BoundsCode):SE P ρ (Instr.sliceBound x y c) (Instr.sliceBound (mv ρ x) y c):=by
 unfold Instr.sliceBound;refine SR.az (p_ x) fun ki=>?_;obtain⟨k,n⟩:=ki;dsimp only;split
 ·exact af rfl
 ·exact iV _ _ _ _
theorem jP (b:Bool) (len cap:Nat) (l h m:Option Value):SE P ρ (Instr.sliceBounds b len cap l h m) (Instr.sliceBounds b len cap (l.map (mv ρ)) (h.map (mv ρ)) (m.map (mv ρ))):=by unfold Instr.sliceBounds;cases m<;>cases h<;>cases l<;>simp only[Option.map_none,Option.map_some,Option.isSome]<;>repeat (first|exact af rfl|exact fI|refine SR.az (kI _ _ _) fun _=>?_|refine SR.az (af rfl) fun _=>?_)
theorem PW (t:TypeId) (x:Value) (l h m:Option Value):SV P ρ (Instr.slice t x l h m) (Instr.slice t (mv ρ x) (l.map (mv ρ)) (h.map (mv ρ)) (m.map (mv ρ))):=by
 unfold Instr.slice;refine SR.az (aF t) fun d=>?_;cases d with
 |string=>
  cases x<;>simp only[mv]<;>first|exact ae|skip
  rename_i s;cases m with
  |some v=>exact fI
  |none=>exact SR.az (jP false s.size s.size l h none) fun y=>af (by simp[mv])
 |slice elem=>
  cases x<;>simp only[mv]<;>first|exact ae|skip
  rename_i a len cap;refine SR.az (jP true len cap l h m) fun y=>?_;refine SR.az (dm elem) fun size=>?_;refine af ?_;cases a with
  |none=>simp only[mv,Option.map_none];split<;>rfl
  |some a=>simp only[mv,Option.map_some];split<;>simp[jN]
 |pointer arr=>
  dsimp only;refine SR.bnd (BH x) fun a a' e=>?_;subst e;refine SR.az (aF arr) fun d=>?_;cases d<;>first|exact ae|skip
  rename_i n elem;refine SR.az (jP false n n l h m) fun y=>?_;refine SR.az (dm elem) fun size=>?_;refine af ?_;simp only[mv,Option.map_some];split<;>simp[jN]
 |_=>cases x<;>exact ae
theorem I7 (t:TypeId) (x:Value) (l h m:Option Value):SV P ρ (Instr.sliceAt t x l h m) (Instr.sliceAt t (mv ρ x) (l.map (mv ρ)) (h.map (mv ρ)) (m.map (mv ρ))):=by
 unfold Instr.sliceAt;refine SR.az (aF t) fun d=>?_;cases d with
 |array n elem=>refine SR.bnd (kW x) fun a a' e=>?_;subst e;refine SR.az (jP false n n l h m) fun y=>?_;refine SR.az (dm elem) fun size=>?_;refine af ?_;simp only[mv,Option.map_some];split<;>simp[jN]
 |_=>exact PW t x l h m
theorem PT (t:TypeId) (x:Value) (f:Nat):SV P ρ (Instr.field t x f) (Instr.field t (mv ρ x) f):=by
 unfold Instr.field;refine SR.az (aF t) fun d=>?_;cases d<;>first|exact ae|skip
 rename_i fields;dsimp only;cases fields[f]? with
 |none=>exact ae
 |some g=>exact SR.bnd (PG x) fun c c' e=>by rw[e];exact jS _ _ _
theorem PU (t:TypeId) (x i:Value):SV P ρ (Instr.index t x i) (Instr.index t (mv ρ x) (mv ρ i)):=by
 unfold Instr.index;refine SR.az (p_ i) fun ki=>?_;obtain⟨k,n⟩:=ki;refine SR.az (aF t) fun d=>?_;cases d with
 |array len elem=>
  cases x<;>simp only[mv]<;>first|exact ae|skip
  split
  ·exact SR.az (dm elem) fun s=>jS _ _ _
  ·exact iV _ _ _ _
 |string=>
  cases x<;>simp only[mv]<;>first|exact ae|skip
  split
  ·exact af (by simp[mv])
  ·exact iV _ _ _ _
 |_=>cases x<;>exact ae
theorem I1 (x:Value) (i:Nat):SV P ρ (Instr.extract x i) (Instr.extract (mv ρ x) i):=by
 cases x<;>simp only[mv,Instr.extract]<;>first|exact ae|skip
 rename_i vs;rw[Array.getElem?_map];cases vs[i]? with
 |none=>exact ae
 |some v=>exact af rfl
theorem wH (t:TypeId) (x:Value):SV P ρ (Instr.makeInterface t x) (Instr.makeInterface t (mv ρ x)):=by unfold Instr.makeInterface;refine SR.az (aF t) fun d=>?_;cases d<;>first|exact ae|exact af (by simp[mv])
theorem FV (f:Fn) (a b:Array Value):SV P ρ (Instr.makeFunc f a b) (Instr.makeFunc f (a.map (mv ρ)) (b.map (mv ρ))):=af (by simp[mv])
end Go.Ren
namespace Go.Ren
set_option linter.unusedSimpArgs false
set_option linter.unusedVariables false
variable {P:Program} {ρ:Nat→Nat}
theorem dN {α β γ δ:Type} {Q:γ→δ→Prop} (e:RuntimeError) (h:X5 e=true) (f:α→Sem γ) (g:β→Sem δ):SR P ρ Q ((runtimePanic e:Sem α)>>= f) ((runtimePanic e:Sem β)>>= g):=
 SR.bnd (Q:=fun _ _=>False) (b_ e h) fun _ _ x=>x.elim
theorem Dl (H:OkP P ρ) (t:TypeId) (l c:Value):SV P ρ (Instr.makeSlice t l c) (Instr.makeSlice t (mv ρ l) (mv ρ c)):=by
 unfold Instr.makeSlice;refine SR.az (aF t) fun d=>?_;cases d<;>first|exact ae|skip
 rename_i elem;refine SR.az (rA l) fun len=>SR.az (rA c) fun cap=>SR.az (dU elem) fun info=>?_;dsimp only;split
 ·split
  ·exact dN _ rfl _ _
  ·split
   ·exact dN _ rfl _ _
   ·exact SR.az (eH _) fun n=>dN _ rfl _ _
 ·refine SR.az (zz _) fun _=>SR.az (dm elem) fun size=>?_
  have key:∀zero:Array Value,zero.map (mv ρ)=zero→SV P ρ (do
   let a ←newRow elem ((Array.range ((IntKind.i64.wrap cap).toNat*size)).map (zero[· % zero.size]!))
   Pure.pure (.slice (some a) (IntKind.i64.wrap len).toNat (IntKind.i64.wrap cap).toNat)) (do
   let a ←newRow elem ((Array.range ((IntKind.i64.wrap cap).toNat*size)).map (zero[· % zero.size]!))
   Pure.pure (.slice (some a) (IntKind.i64.wrap len).toNat (IntKind.i64.wrap cap).toNat)):=by
   intro zero hz;have:=mq (P:=P) (ρ:=ρ) elem ((Array.range ((IntKind.i64.wrap cap).toNat*size)).map (zero[· % zero.size]!));rw[pV zero hz]at this;exact SR.bnd this fun a a' e=>af (by rw[e];simp[mv])
  split
  ·exact key #[] (by simp)
  ·refine SR.bnd (qc H elem) fun v v' e=>?_;obtain⟨rfl,e⟩:=e;exact key v'.cells (by rw[←iO,e])
theorem Fx (v:Value):SE P ρ (Builtin.lenOf v) (Builtin.lenOf (mv ρ v)):=by cases v<;>simp only[mv,Builtin.lenOf]<;>first|exact af rfl|exact ae
theorem oh (size n:Nat) (v:Value):SR P ρ (fun c c'=>c'=c.map (mv ρ)) (Builtin.firstCells size n v) (Builtin.firstCells size n (mv ρ v)):=by
 cases v<;>simp only[mv,Builtin.firstCells]<;>first|exact ae|skip
 ·exact af (by simp[mv,Function.comp_def])
 ·rename_i a _ _;cases a with
  |none=>exact af (by simp)
  |some a=>exact lY _ _
theorem qf (z:Array Value) (h:z.map (mv ρ)=z) (n:Nat):(Builtin.zeroCells z n).map (mv ρ)=Builtin.zeroCells z n:=pV z h _
theorem sW (a:Addr) (n:Nat):SE P ρ (Builtin.holdsCells a n) (Builtin.holdsCells (bW ρ a) n):=by unfold Builtin.holdsCells;refine SR.az (fT a.block) fun s=>?_;cases s<;>exact af rfl
theorem Fz (H:OkP P ρ) (size sLen n:Nat) (b:Option Addr) (x:Value):SE P ρ (Builtin.mayShare size sLen n b x) (Builtin.mayShare size sLen n (b.map (bW ρ)) (mv ρ x)):=by
 unfold Builtin.mayShare;cases b<;>dsimp only[Option.map_some,Option.map_none]
 case' none=>refine SR.az (af rfl) fun there=>?_
 case' some a=>refine SR.az (sW a _) fun y=>?_;rw[jN];refine SR.az (oV _) fun z=>SR.az (af rfl) fun there=>?_
 all_goals
  refine SR.ite (af rfl) ?_;cases x<;>simp only[mv]<;>first|exact af rfl|skip
  rename_i u _ _;cases u with
  |none=>exact af rfl
  |some u=>exact SR.az (sW u _) fun y=>af (by simp[bW,yG H.inj])
theorem Mq (H:OkP P ρ) (ts:Array TypeId) (t:TypeId) (args:Array Value):SV P ρ (Builtin.append_ ts t args) (Builtin.append_ ts t (args.map (mv ρ))):=by
 unfold Builtin.append_;rw[Array.getElem?_map,Array.getElem?_map];cases ts[0]? with
 |none=>exact ae
 |some sT=>
  cases args[0]? with
  |none=>exact ae
  |some s=>
   cases args[1]? with
   |none=>exact ae
   |some x=>
    refine SR.az (aF sT) fun d=>?_;cases d<;>first|exact ae|skip
    rename_i elem;cases s<;>first|exact ae|skip
    rename_i base sLen sCap;rw[show mv ρ (Value.slice base sLen sCap)= .slice (base.map (bW ρ)) sLen sCap by simp[mv]];refine SR.az (dm elem) fun size=>?_;cases ts[1]? <;>dsimp only
    case' none=>refine SR.az (af rfl) fun zeros=>?_
    case' some xT=>refine SR.az (aF xT) fun d=>SR.az (af rfl) fun zeros=>?_
    all_goals refine SR.ite (SR.az (rA x) fun l=>SR.ite (dN _ rfl _ _) (SR.az (dU elem) fun i=>SR.ite (SR.az (eH _) fun m=>dN _ rfl _ _) (SR.az (af rfl) fun n=>?_))) (SR.az (Fx x) fun n=>?_)
    all_goals
     have cells:∀{A A':Sem (Array Value)},SR P ρ (fun c c'=>c'=c.map (mv ρ)) A A'→SR P ρ (fun c c'=>c'=c.map (mv ρ)) A A':=id;refine SR.ite (SR.bnd (cells (SR.ite (oh _ _ _) (SR.ite (af (by simp)) (SR.bnd (qc H elem) fun v v' e=>af (by rw[e.1,qf];rw[←iO,e.2]))))) fun new new' en=>?_)
      (SR.az (dU elem) fun i=>SR.ite (dN _ rfl _ _) (SR.az (dU elem) fun i=>SR.ite (SR.az (SR.ite (b_ _ rfl) (SR.az (Fz H _ _ _ _ _) fun b=>SR.ite (SR.az (CY .noRoom rfl) fun _=>aB (by simp)) (aB (by simp)))) fun _=>?_) ?_))
     ·subst en;cases base with
      |none=>exact af (by simp[mv])
      |some a=>simp only[Option.map_some,jN,Array.toList_map];exact SR.az (kJ _ _ _) fun _=>af (by simp[mv])
     all_goals
      refine SR.az (eH _) fun c=>SR.az (dU elem) fun i=>SR.az (zz _) fun _=>?_;have e1:=oh (P:=P) (ρ:=ρ) size sLen (.slice base sLen sCap);simp only[mv]at e1;refine SR.bnd e1 fun old old' eo=>SR.bnd (cells (SR.ite (oh _ _ _) (SR.ite (af (by simp)) (SR.bnd (qc H elem) fun v v' e=>af (by rw[e.1,qf];rw[←iO,e.2]))))) fun new new' en=>SR.bnd (qc H elem) fun z z' ez=>?_;obtain⟨rfl,ez⟩:=ez;subst eo en;have e2:=mq (P:=P) (ρ:=ρ) elem (old++new++Builtin.zeroCells z'.cells (c-(sLen+n)));rw[Array.map_append,Array.map_append,qf _ (by rw[←iO,ez]) _]at e2;exact SR.bnd e2 fun a a' e=>af (by rw[e];simp[mv])
end Go.Ren
namespace Go.Ren
set_option linter.unusedSimpArgs false
set_option linter.unusedVariables false
variable {P:Program} {ρ:Nat→Nat}
theorem Bu {α β:Type} {f f':α→β→Sem (ForInStep β)} (h:∀a b,SE P ρ (f a b) (f' a b)):∀(l:List α) (b:β),SE P ρ (forIn l b f) (forIn l b f'):=by
 intro l;induction l with
 |nil=>intro b;exact af rfl
 |cons x l ih=>
  intro b;rw[List.forIn_cons,List.forIn_cons];refine SR.az (h x b) fun s=>?_;cases s with
  |done b=>exact af rfl
  |yield b=>exact ih b
theorem Bt {α β:Type} {f f':α→β→Sem (ForInStep β)} (h:∀a b,SE P ρ (f a b) (f' a b)) (l:Array α) (b:β):SE P ρ (forIn l b f) (forIn l b f'):=by rw[←Array.forIn_toList, ←Array.forIn_toList];exact Bu h _ _
theorem Bv {β:Type} {f f':Nat→β→Sem (ForInStep β)} (h:∀a b,SE P ρ (f a b) (f' a b)) (n:Nat) (b:β):SE P ρ (forIn [0:n] b f) (forIn [0:n] b f'):=by rw[Std.Legacy.Range.forIn_eq_forIn_range',Std.Legacy.Range.forIn_eq_forIn_range'];exact Bu h _ _
theorem RF (ts:Array TypeId) (t:TypeId) (args:Array Value):SV P ρ (Builtin.copy_ ts t args) (Builtin.copy_ ts t (args.map (mv ρ))):=by
 unfold Builtin.copy_;rw[Array.getElem?_map,Array.getElem?_map];cases ts[0]? with
 |none=>exact ae
 |some sT=>
  cases args[0]? with
  |none=>exact ae
  |some s=>
   cases args[1]? with
   |none=>exact ae
   |some x=>
    refine SR.az (aF sT) fun d=>?_;cases d<;>first|exact ae|skip
    rename_i elem;cases s<;>first|exact ae|skip
    rename_i base sLen sCap;rw[show mv ρ (Value.slice base sLen sCap)= .slice (base.map (bW ρ)) sLen sCap by simp[mv]];refine SR.az (Fx x) fun n=>SR.az (dm elem) fun size=>SR.bnd (oh _ _ x) fun c c' e=>?_;subst e;cases base with
    |none=>exact af (by simp[mv,goInt])
    |some a=>rw[Array.toList_map];exact SR.az (kJ a c.toList 0) fun _=>af (by simp[mv,goInt])
theorem VM (ts:Array TypeId) (t:TypeId) (args:Array Value):SV P ρ (Builtin.len_ ts t args) (Builtin.len_ ts t (args.map (mv ρ))):=by
 unfold Builtin.len_;rw[Array.getElem?_map];cases ts[0]? with
 |none=>exact ae
 |some sT=>
  cases args[0]? with
  |none=>exact ae
  |some x=>
   rw[Option.map_some];refine SR.az (aF sT) fun d=>?_;cases d with
   |string=>cases x<;>simp only[mv]<;>first|exact ae|exact af (by simp[mv,goInt])
   |array n e=>exact af (by simp[mv,goInt])
   |pointer arr=>refine SR.az (aF arr) fun d=>?_;cases d<;>first|exact ae|exact af (by simp[mv,goInt])
   |slice e=>cases x<;>simp only[mv]<;>first|exact ae|exact af (by simp[mv,goInt])
   |map k v=>
    cases x<;>simp only[mv]<;>first|exact ae|skip
    rename_i r;cases r with
    |none=>exact af (by simp[mv,goInt])
    |some r=>refine SR.bnd (mh r) fun o o' e=>?_;subst e;cases o<;>first|exact ae|exact af (by simp[mv,goInt,lM])
   |chan d v=>
    cases x<;>simp only[mv]<;>first|exact ae|skip
    rename_i r;cases r with
    |none=>exact af (by simp[mv,goInt])
    |some r=>refine SR.bnd (mh r) fun o o' e=>?_;subst e;cases o<;>first|exact ae|exact af (by simp[mv,goInt,lM])
   |_=>cases x<;>exact ae
theorem Md (r:Nat) (o:Obj) (hp:∀c t,o≠ .pending c t):SE P ρ (setObj r o) (setObj (ρ r) (lM ρ o)):=.setObj hp (.pure rfl)
theorem PS (H:OkP P ρ) (ts:Array TypeId) (t:TypeId) (args:Array Value):SV P ρ (Builtin.clear_ ts t args) (Builtin.clear_ ts t (args.map (mv ρ))):=by
 unfold Builtin.clear_;rw[Array.getElem?_map];cases ts[0]? with
 |none=>exact ae
 |some sT=>
  cases ha:args[0]? with
  |none=>exact ae
  |some x=>
   rw[Option.map_some];refine SR.az (aF sT) fun d=>?_;have fin:SV P ρ (Pure.pure (.tuple #[])) (Pure.pure (.tuple #[])):=af (by simp[mv]);cases x with
   |map r=>
    simp only[mv];cases r with
    |none=>exact fin
    |some r=>
     refine SR.bnd (mh r) fun o o' e=>?_;subst e;cases o<;>first|exact fI|skip
     rename_i es clock;exact SR.az (Md r (.map #[] clock) (by simp)) fun _=>fin
   |slice a n c=>
    simp only[mv];cases a with
    |none=>exact fin
    |some a=>
     cases n with
     |zero=>exact fin
     |succ n=>
      cases d<;>first|exact fI|skip
      rename_i elem;refine SR.bnd (qc H elem) fun z z' e=>?_;obtain⟨rfl,e⟩:=e;have hz:(Builtin.zeroCells z'.cells (n+1)).map (mv ρ)=Builtin.zeroCells z'.cells (n+1):=qf _ (by rw[←iO,e]) _;have:=kJ (P:=P) (ρ:=ρ) a (Builtin.zeroCells z'.cells (n+1)).toList 0;rw[←Array.toList_map,hz]at this;exact SR.az this fun _=>fin
   |_=>cases d<;>exact fI
theorem rE (op:BinOp) (a b:ByteArray):SV P ρ (Op.stringOp op a b) (Op.stringOp op a b):=by
 unfold Op.stringOp;cases op<;>first|exact ae|exact af (by simp[mv])|skip
 dsimp only;split
 ·exact aB (by simp)
 ·exact af (by simp[mv])
theorem RH (a b:Value):SV P ρ (Builtin.max2 a b) (Builtin.max2 (mv ρ a) (mv ρ b)):=by
 cases a with
 |pointer p=>
  cases p with
  |none=>cases b with
   |pointer q=>cases q<;>first|exact ae|exact aB (by simp)
   |_=>exact ae
  |some p=>cases b<;>exact aB (by simp)
 |int k n=>cases b with
  |pointer q=>cases q<;>first|exact ae|exact aB (by simp)
  |int k' n'=>simp only[mv];exact af (by simp[mv])
  |_=>exact ae
 |float k n=>cases b with
  |pointer q=>cases q<;>first|exact ae|exact aB (by simp)
  |float k' n'=>simp only[mv,Builtin.max2];split<;>first|exact af (by simp[mv])|exact SR.az (eH _) fun _=>af (by simp[mv])
  |_=>exact ae
 |string s=>cases b with
  |pointer q=>cases q<;>first|exact ae|exact aB (by simp)
  |string s'=>simp only[mv,Builtin.max2];exact SR.kZ (rE _ _ _) fun v=>SR.az (rU v) fun x=>af (by simp[mv])
  |_=>exact ae
 |_=>cases b with
  |pointer q=>cases q<;>first|exact ae|exact aB (by simp)
  |_=>exact ae
theorem VN (ts:Array TypeId) (t:TypeId) (args:Array Value):SV P ρ (Builtin.max_ ts t args) (Builtin.max_ ts t (args.map (mv ρ))):=by
 unfold Builtin.max_;rw[Array.toList_map];have key:∀(l:List Value) (x:Value),SV P ρ (l.foldlM Builtin.max2 x) ((l.map (mv ρ)).foldlM Builtin.max2 (mv ρ x)):=by
  intro l;induction l with
  |nil=>intro x;exact af rfl
  |cons y l ih=>intro x;exact SR.kZ (RH x y) fun v=>ih v
 cases args.toList with
 |nil=>exact ae
 |cons x rest=>exact key rest x
theorem RI (a b:Value):SV P ρ (Builtin.min2 a b) (Builtin.min2 (mv ρ a) (mv ρ b)):=by
 cases a with
 |pointer p=>
  cases p with
  |none=>cases b with
   |pointer q=>cases q<;>first|exact ae|exact aB (by simp)
   |_=>exact ae
  |some p=>cases b<;>exact aB (by simp)
 |int k n=>cases b with
  |pointer q=>cases q<;>first|exact ae|exact aB (by simp)
  |int k' n'=>simp only[mv];exact af (by simp[mv])
  |_=>exact ae
 |float k n=>cases b with
  |pointer q=>cases q<;>first|exact ae|exact aB (by simp)
  |float k' n'=>simp only[mv,Builtin.min2];split<;>first|exact af (by simp[mv])|exact SR.az (eH _) fun _=>af (by simp[mv])
  |_=>exact ae
 |string s=>cases b with
  |pointer q=>cases q<;>first|exact ae|exact aB (by simp)
  |string s'=>simp only[mv,Builtin.min2];exact SR.kZ (rE _ _ _) fun v=>SR.az (rU v) fun x=>af (by simp[mv])
  |_=>exact ae
 |_=>cases b with
  |pointer q=>cases q<;>first|exact ae|exact aB (by simp)
  |_=>exact ae
theorem VO (ts:Array TypeId) (t:TypeId) (args:Array Value):SV P ρ (Builtin.min_ ts t args) (Builtin.min_ ts t (args.map (mv ρ))):=by
 unfold Builtin.min_;rw[Array.toList_map];have key:∀(l:List Value) (x:Value),SV P ρ (l.foldlM Builtin.min2 x) ((l.map (mv ρ)).foldlM Builtin.min2 (mv ρ x)):=by
  intro l;induction l with
  |nil=>intro x;exact af rfl
  |cons y l ih=>intro x;exact SR.kZ (RI x y) fun v=>ih v
 cases args.toList with
 |nil=>exact ae
 |cons x rest=>exact key rest x
theorem xV (ts:Array TypeId) (t:TypeId) (args:Array Value):SV P ρ (Builtin.unsafeString_ ts t args) (Builtin.unsafeString_ ts t (args.map (mv ρ))):=by
 unfold Builtin.unsafeString_;obtain⟨l⟩:=args
 match l with
 | []=>exact ae
 | [x]=>exact ae
 |x::y::z::r=>exact ae
 | [x,y]=>
   cases x<;>first|exact ae|skip
   rename_i p;rw[show(⟨[Value.pointer p,y]⟩:Array Value).map (mv ρ)= #[Value.pointer (p.map (bW ρ)),mv ρ y] by simp[mv]];refine SR.az (rA y) fun n=>?_;cases ts[0]? with
   |none=>exact ae
   |some pt=>
    dsimp only;by_cases h1:n<0
    ·rw[if_pos h1,if_pos h1];exact dN _ rfl _ _
    rw[if_neg h1,if_neg h1];by_cases h2:n>IntKind.i64.max
    ·rw[if_pos h2,if_pos h2];exact dO (by simp)
    rw[if_neg h2,if_neg h2];cases p with
    |none=>
     simp only[Option.map_none];split
     ·exact af (by simp[mv])
     ·exact b_ _ rfl
    |some a=>
     simp only[Option.map_some];split
     ·exact af (by simp[mv])
     ·refine SR.az (vW pt) fun e=>SR.az (rC a e _) fun b=>?_;cases b with
      |false=>exact aB (by simp)
      |true=>exact SR.az (CW _ _ _) fun s=>SR.az (Bw _ _) fun _=>af (by simp[mv])
theorem tX (ts:Array TypeId) (t:TypeId) (args:Array Value):SV P ρ (Builtin.unsafeSliceData_ ts t args) (Builtin.unsafeSliceData_ ts t (args.map (mv ρ))):=by
 unfold Builtin.unsafeSliceData_;obtain⟨l⟩:=args
 match l with
 | []=>exact ae
 |x::y::r=>exact ae
 | [x]=>
   cases x<;>first|exact ae|skip
   rename_i a len c;rw[show(⟨[Value.slice a len c]⟩:Array Value).map (mv ρ)= #[Value.slice (a.map (bW ρ)) len c] by simp[mv]];cases a with
   |none=>exact af (by simp[mv])
   |some a=>
    have key:SV P ρ (if c≠0 then Pure.pure (.pointer (some a))else do
          if(←viewAt a.block).isSome then Pure.pure (.pointer (some a))
          else Pure.pure (.pointer (some ⟨←newObj (.view a (←elemOf t)),0,none⟩)))
     (if c≠0 then Pure.pure (.pointer (some (bW ρ a)))else do
       if(←viewAt (bW ρ a).block).isSome then Pure.pure (.pointer (some (bW ρ a)))
       else Pure.pure (.pointer (some ⟨←newObj (.view (bW ρ a) (←elemOf t)),0,none⟩))):=by
     split
     ·exact af (by simp[mv])
     ·refine SR.bnd (rW a.block) fun x y e=>?_;subst e;cases x with
      |some z=>exact af (by simp[mv])
      |none=>refine SR.az (vW t) fun e=>?_;exact SR.bnd (o8 (.view a e) (by simp)) fun r r' er=>af (by rw[er];simp[mv,bW])
    exact key
end Go.Ren
namespace Go.Ren
set_option linter.unusedSimpArgs false
set_option linter.unusedVariables false
variable {P:Program} {ρ:Nat→Nat}
structure OkG (P:Program) (ρ:Nat→Nat):Prop extends OkP P ρ where
 Q5:∀b,(ρ b<P.globals.size↔b<P.globals.size)
theorem nR {γ δ:Type} {T:γ→δ→Prop} {f:Program→Sem γ} {f':Program→Sem δ} (hf:True→SR P ρ T (f P) (f' P)):SR P ρ T (program>>= f) (program>>= f'):=
 SR.program (hf trivial)
theorem xG (op:BinOp) (k:IntKind) (a b:Int):SV P ρ (Op.intArith op k a b) (Op.intArith op k a b):=by unfold Op.intArith;cases op<;>first|exact ae|exact af (by simp[mv])
theorem Mv (op:BinOp) (k:IntKind) (a b:Int):SV P ρ (Op.intDiv op k a b) (Op.intDiv op k a b):=by
 unfold Op.intDiv;split
 ·exact b_ _ rfl
 ·cases op<;>first|exact ae|exact af (by simp[mv])
theorem zG (op:BinOp) (k:IntKind) (a b:Int):SV P ρ (Op.intBits op k a b) (Op.intBits op k a b):=by unfold Op.intBits;cases op<;>first|exact ae|exact af (by simp[mv])
theorem FX (op:BinOp) (k:IntKind) (a:Int) (k':IntKind) (b:Int):SV P ρ (Op.shift op k a k' b) (Op.shift op k a k' b):=by
 unfold Op.shift;split
 ·exact b_ _ rfl
 ·cases op<;>first|exact ae|exact af (by simp[mv])
theorem Mt (op:BinOp) (a b:Int):SV P ρ (Op.intCmp op a b) (Op.intCmp op a b):=by unfold Op.intCmp;cases op<;>first|exact ae|exact af (by simp[mv])
theorem PX (op:UnOp) (x:Value):SV P ρ (Op.unary op x) (Op.unary op (mv ρ x)):=by
 cases op<;>cases x<;>simp only[mv]<;>first|exact ae|exact xG _ _ _ _|exact zG _ _ _ _|exact af (by simp[mv])|skip
 all_goals (rename_i p;cases p<;>first|exact ae|exact aB (by simp))
theorem IA (t:TypeId):SE P ρ (typeStr t) (typeStr t):=by
 unfold typeStr;refine SR.az (dU t) fun i=>?_;dsimp only;split
 ·exact aB (by simp)
 ·exact af rfl
theorem Lv (hi:∀a b,ρ a=ρ b→a=b) (x y:Option Nat):(x.map ρ==y.map ρ)=(x==y):=by cases x<;>cases y<;>simp[yG hi]
theorem Iw (H:OkG P ρ):∀(d:Nat) (t:TypeId) (x y:Value),SE P ρ (Op.equalIn d t x y) (Op.equalIn d t (mv ρ x) (mv ρ y)):=by
 intro d;induction d with
 |zero=>intro t x y;exact aB (by simp)
 |succ d ih=>
  intro t x y;unfold Op.equalIn;refine SR.az (aF t) fun dd=>?_;cases dd with
  |bool=>cases x with
   |bool a=>cases y with
    |bool b=>simp only[mv];exact af rfl
    |_=>exact ae
   |_=>first|exact ae|(cases y<;>exact ae)
  |float k=>cases x with
   |float k a=>cases y with
    |float k' b=>simp only[mv];split<;>first|exact ae|exact af rfl
    |_=>exact ae
   |_=>first|exact ae|(cases y<;>exact ae)
  |complex k=>cases x with
   |complex k a c=>cases y with
    |complex k' b e=>simp only[mv];split<;>first|exact ae|exact af rfl
    |_=>exact ae
   |_=>first|exact ae|(cases y<;>exact ae)
  |string=>cases x with
   |string a=>cases y with
    |string b=>simp only[mv];exact af rfl
    |_=>exact ae
   |_=>first|exact ae|(cases y<;>exact ae)
  |unsafePointer=>cases x with
   |pointer a=>cases y with
    |pointer b=>simp only[mv];exact zB H.toOkP _ _
    |_=>exact ae
   |_=>first|exact ae|(cases y<;>exact ae)
  |chan a b=>cases x with
   |chan a=>cases y with
    |chan b=>simp only[mv];exact af (by rw[Lv H.inj])
    |_=>exact ae
   |_=>first|exact ae|(cases y<;>exact ae)
  |slice e=>cases x with
   |slice p _ _=>cases y with
    |slice q _ _=>simp only[mv];cases p<;>cases q<;>first|exact af rfl|exact ae
    |_=>cases p<;>exact ae
   |_=>first|exact ae|(cases y<;>exact ae)
  |map a b=>cases x with
   |map p=>cases y with
    |map q=>simp only[mv];cases p<;>cases q<;>first|exact af rfl|exact ae
    |_=>cases p<;>exact ae
   |_=>first|exact ae|(cases y<;>exact ae)
  |func a b c=>cases x with
   |nilFunc=>cases y with
    |nilFunc=>simp only[mv];exact af rfl
    |func=>simp only[mv];exact af rfl
    |_=>exact ae
   |func=>cases y with
    |nilFunc=>simp only[mv];exact af rfl
    |_=>exact ae
   |_=>first|exact ae|(cases y<;>exact ae)
  |pointer elem=>cases x with
   |pointer p=>cases y with
    |pointer q=>
     simp only[mv];cases p with
     |none=>cases q<;>exact af rfl
     |some p=>cases q with
      |none=>exact af rfl
      |some q=>
       refine SR.az (dm elem) fun n=>?_;by_cases h:n≠0
       ·rw[if_pos h,if_pos h];exact xw H.toOkP _ _
       ·rw[if_neg h,if_neg h,qG H.inj];cases (p==q)with
        |true=>exact af rfl
        |false=>exact SR.az (eH _) fun n=>af rfl
    |_=>cases p<;>exact ae
   |_=>first|exact ae|(cases y<;>exact ae)
  |int k=>cases x with
   |int k1 a=>cases y with
    |int k2 b=>simp only[mv];split<;>first|exact ae|exact af rfl
    |pointer q=>cases q with
     |none=>exact aB (by simp)
     |some q=>
      simp only[mv,Option.map_some];rcases a with(_|a)|a
      ·exact af rfl
      ·exact aB (by simp)
      ·exact aB (by simp)
    |_=>exact ae
   |pointer p=>cases y with
    |int k2 b=>cases p with
     |none=>exact aB (by simp)
     |some p=>
      simp only[mv,Option.map_some];rcases b with(_|b)|b
      ·exact af rfl
      ·exact aB (by simp)
      ·exact aB (by simp)
    |pointer q=>cases p with
     |none=>exact aB (by simp)
     |some p=>cases q with
      |none=>exact aB (by simp)
      |some q=>
       simp only[mv,Option.map_some];refine SR.bnd (bz p) fun a a' ea=>SR.bnd (bz q) fun b b' eb=>?_;subst ea eb;refine nR fun hpr=>?_;have hd:decide (ρ a.1.block<P.globals.size)=decide (a.1.block<P.globals.size):=decide_eq_decide.2 (H.Q5 _);rw[show(bW ρ a.1).block=ρ a.1.block from rfl,show(bW ρ b.1).block=ρ b.1.block from rfl,yG H.inj,hd];split
       ·exact SR.az (ku _) fun u=>SR.az (ku _) fun v=>af rfl
       ·refine SR.az (dU t) fun i=>?_;rw[qG H.inj];have fin:SE P ρ (if(a.1==b.1)=true then Pure.pure true else unsupported .addressObserved) (if(a.1==b.1)=true then Pure.pure true else unsupported .addressObserved):=by
         split
         ·exact af rfl
         ·exact aB (by simp)
        split
        ·exact fin
        ·exact aB (by simp)
    |_=>cases p<;>exact aB (by simp)
   |_=>first|exact ae|(cases y with
    |pointer q=>exact aB (by simp)
    |_=>exact ae)
  |interface ms=>cases x with
   |nilIface=>cases y with
    |nilIface=>simp only[mv];exact af rfl
    |iface=>simp only[mv];exact af rfl
    |_=>exact ae
   |iface tx vx=>cases y with
    |nilIface=>simp only[mv];exact af rfl
    |iface ty vy=>
     simp only[mv];by_cases h:tx≠ty
     ·rw[if_pos h,if_pos h];exact af rfl
     ·rw[if_neg h,if_neg h];refine SR.az (dU tx) fun i=>?_;cases i.comparable with
      |true=>exact ih _ _ _
      |false=>
       refine SR.az f_ fun pr=>SR.az f_ fun pr'=>?_;split
       ·exact dO (by simp)
       ·exact SR.az (IA tx) fun s=>b_ _ rfl
    |_=>exact ae
   |_=>first|exact ae|(cases y<;>exact ae)
  |struct fs=>cases x with
   |agg xs=>cases y with
    |agg ys=>
     simp only[mv];refine SR.az f_ fun pr=>?_;split
     ·exact dO (by simp)
     ·refine SR.az (Bt (fun f r=>?_) fs _) fun r=>?_
      ·split
       ·refine SR.kZ (jS f.type xs f.offset) fun u=>SR.kZ (jS f.type ys f.offset) fun v=>SR.az (ih _ _ _) fun b=>?_;split<;>exact af rfl
       ·exact af rfl
      ·split<;>exact af rfl
    |_=>exact ae
   |_=>first|exact ae|(cases y<;>exact ae)
  |array n e=>cases x with
   |agg xs=>cases y with
    |agg ys=>
     simp only[mv];refine SR.az (dm e) fun sz=>?_;refine SR.az (Bv (fun i r=>?_) n _) fun r=>?_
     ·refine SR.kZ (jS e xs _) fun u=>SR.kZ (jS e ys _) fun v=>SR.az (ih _ _ _) fun b=>?_;split<;>exact af rfl
     ·split<;>exact af rfl
    |_=>exact ae
   |_=>first|exact ae|(cases y<;>exact ae)
  |_=>first|exact ae|(cases x<;>first|exact ae|(cases y<;>exact ae))
theorem Fv (H:OkG P ρ) (t:TypeId) (x y:Value):SE P ρ (Op.equal t x y) (Op.equal t (mv ρ x) (mv ρ y)):=Iw H _ _ _ _
theorem uW:∀(d:Nat) (t:TypeId) (x y:Value),SE P ρ (Op.eqGuardIn d t x y) (Op.eqGuardIn d t (mv ρ x) (mv ρ y)):=by
 intro d;induction d with
 |zero=>intro t x y;exact aB (by simp)
 |succ d ih=>
  intro t x y;unfold Op.eqGuardIn;refine SR.az (aF t) fun dd=>?_;cases dd with
  |interface ms=>cases x with
   |nilIface=>cases y<;>simp only[mv]<;>exact af rfl
   |_=>first|(simp only[mv];exact af rfl)|(cases y<;>simp only[mv]<;>exact af rfl)
  |struct fs=>cases x with
   |agg xs=>cases y with
    |agg ys=>
     simp only[mv];refine SR.az (Bt (fun f r=>?_) fs _) fun r=>?_
     ·split
      ·refine SR.kZ (jS f.type xs f.offset) fun u=>SR.kZ (jS f.type ys f.offset) fun v=>SR.az (ih _ _ _) fun b=>?_;split<;>exact af rfl
      ·exact af rfl
     ·split<;>exact af rfl
    |_=>simp only[mv];exact af rfl
   |_=>first|(simp only[mv];exact af rfl)|(cases y<;>simp only[mv]<;>exact af rfl)
  |array n e=>cases x with
   |agg xs=>cases y with
    |agg ys=>
     simp only[mv];refine SR.az (dm e) fun sz=>?_;refine SR.az (Bv (fun i r=>?_) n _) fun r=>?_
     ·refine SR.kZ (jS e xs _) fun u=>SR.kZ (jS e ys _) fun v=>SR.az (ih _ _ _) fun b=>?_;split<;>exact af rfl
     ·split<;>exact af rfl
    |_=>simp only[mv];exact af rfl
   |_=>first|(simp only[mv];exact af rfl)|(cases y<;>simp only[mv]<;>exact af rfl)
  |_=>first|exact af rfl|(cases x<;>first|exact af rfl|(cases y<;>exact af rfl))
end Go.Ren
