import Derived.Test.YtheibfffilomcabGreatDoorR7U
import Derived.Laws.Sem
set_option linter.all false
namespace Go.Ren
set_option linter.unusedSimpArgs false
set_option linter.unusedVariables false
variable {P:Program} {ρ:Nat→Nat}
theorem PN (H:OkP P ρ) (t:TypeId):SV P ρ (Instr.alloc t true (.tuple #[])) (Instr.alloc t true (.tuple #[])):=by unfold Instr.alloc;refine SR.bnd (qc H t) fun v v' e=>?_;obtain⟨rfl,e⟩:=e;have:=wD (P:=P) (ρ:=ρ) t v';rw[e]at this;refine SR.bnd this fun a a' ea=>?_;exact af (by rw[ea];simp[mv])
theorem VL (t:TypeId) (v:Value):SV P ρ (Instr.box t v) (Instr.box t (mv ρ v)):=by refine SR.bnd (wD t v) fun a a' ea=>?_;exact af (by rw[ea];simp[mv])
theorem G9 (off:Nat):∀(l:List (Value × Nat)) (c:Array Value),(l.map fun x=>(mv ρ x.1,x.2)).foldl (fun cs x=>cs.setIfInBounds (off+x.2) x.1) (c.map (mv ρ))=(l.foldl (fun cs x=>cs.setIfInBounds (off+x.2) x.1) c).map (mv ρ):=by
 intro l;induction l with
 |nil=>intro c;rfl
 |cons x l ih=>intro c;simp only[List.map_cons,List.foldl_cons];rw[←ih];simp
theorem JW (place:Nat→Option (Nat × Nat)):∀(parts:List (Nat × Value)) (cells:Array Value),
 Instr.fill place (cells.map (mv ρ)) (parts.map fun x=>(x.1,mv ρ x.2))=(Instr.fill place cells parts).map (·.map (mv ρ)):=by
 intro parts;induction parts with
 |nil=>intro cells;simp[Instr.fill]
 |cons x parts ih=>
  intro cells;obtain⟨i,v⟩:=x;simp only[List.map_cons,Instr.fill,iO,Array.size_map];cases place i with
  |none=>rfl
  |some y=>
   obtain⟨off,size⟩:=y;simp only;split
   ·rfl
   ·rw[←ih]
    congr 1
    have:=G9 (ρ:=ρ) off v.cells.zipIdx.toList cells;rw[←Array.foldl_toList, ←Array.foldl_toList];rw[←this]
    congr 1
    simp[Array.zipIdx_map,Function.comp_def]
theorem Ry {α β:Type} (f:α→Sem β) (hf:∀a,SE P ρ (f a) (f a)):∀(l:List α),SE P ρ (l.mapM f) (l.mapM f):=by
 intro l;induction l with
 |nil=>exact af rfl
 |cons x l ih=>rw[List.mapM_cons];exact SR.az (hf x) fun y=>SR.az ih fun z=>af rfl
theorem Ps {α β:Type} (f:α→Sem β) (hf:∀a,SE P ρ (f a) (f a)) (l:Array α):SE P ρ (l.mapM f) (l.mapM f):=by rw[Array.mapM_eq_mapM_toList];exact SR.az (Ry f hf l.toList) fun z=>af rfl
theorem PR (H:OkP P ρ) (t:TypeId) (parts:Array (Nat × Value)):SV P ρ (Instr.build t parts) (Instr.build t (parts.map fun x=>(x.1,mv ρ x.2))):=by
 unfold Instr.build;refine SR.bnd (qc H t) fun v v' e=>?_;obtain⟨rfl,e⟩:=e;have hc:v'.cells=v'.cells.map (mv ρ):=by rw[←iO,e]
 refine SR.az (aF t) fun d=>?_;have fin:∀place why,SV P ρ (match Instr.fill place v'.cells parts.toList with|some c=>Pure.pure (.agg c)|_=>stuck why) (match Instr.fill place v'.cells (parts.map fun x=>(x.1,mv ρ x.2)).toList with|some c=>Pure.pure (.agg c)|_=>stuck why):=by
  intro place why;have:=JW (ρ:=ρ) place parts.toList v'.cells;rw[←hc]at this;rw[Array.toList_map,this];cases Instr.fill place v'.cells parts.toList with
  |none=>exact ae
  |some c=>exact af (by simp[mv])
 cases d<;>first|exact ae|skip
 ·exact SR.az (dm _) fun n=>fin _ _
 ·exact SR.az (Ps _ (fun f=>SR.az (dm _) fun n=>af rfl) _) fun pl=>fin _ _
theorem Hf (z:Array Value) (h:z.map (mv ρ)=z) (i:Nat):mv ρ z[i]! =z[i]! :=by
 rw[getElem!_def];have:z[i]?.map (mv ρ)=z[i]? :=by rw[←Array.getElem?_map,h]
 cases hz:z[i]? with
 |none=>show mv ρ (Value.bool default)=Value.bool default;simp only[mv]
 |some v=>rw[hz]at this;simpa using this
theorem pV (z:Array Value) (h:z.map (mv ρ)=z) (n:Nat):((Array.range n).map (z[· % z.size]!)).map (mv ρ)=(Array.range n).map (z[· % z.size]!):=by simp only[Array.map_map];apply Array.map_congr_left;intro i _;exact Hf z h _
theorem Ai (H:OkP P ρ) (t:TypeId) (len:Nat) (parts:Array (Nat × Value)):SV P ρ (Instr.buildSlice t len parts) (Instr.buildSlice t len (parts.map fun x=>(x.1,mv ρ x.2))):=by
 unfold Instr.buildSlice;refine SR.az (aF t) fun d=>?_;cases d<;>first|exact ae|skip
 rename_i elem;refine SR.az (dm elem) fun size=>?_
 have rest:SV P ρ (do
  let zero ←if len*size=0 then Pure.pure #[]else do Pure.pure (←zeroValue elem).cells
  let some cells:=Instr.fill (fun i=>some (i*size,size)) ((Array.range (len*size)).map (zero[· % zero.size]!)) parts.toList
   |stuck "buildSlice: a part of the wrong size"
  Pure.pure (.slice (some (←newRow elem cells)) len len)) (do
  let zero ←if len*size=0 then Pure.pure #[]else do Pure.pure (←zeroValue elem).cells
  let some cells:=Instr.fill (fun i=>some (i*size,size)) ((Array.range (len*size)).map (zero[· % zero.size]!)) (parts.map fun x=>(x.1,mv ρ x.2)).toList
   |stuck "buildSlice: a part of the wrong size"
  Pure.pure (.slice (some (←newRow elem cells)) len len)):=by
  have key:∀zero:Array Value,zero.map (mv ρ)=zero→SV P ρ (match Instr.fill (fun i=>some (i*size,size)) ((Array.range (len*size)).map (zero[· % zero.size]!)) parts.toList with
   |some cells=>do Pure.pure (.slice (some (←newRow elem cells)) len len)
   |_=>stuck "buildSlice: a part of the wrong size") (match Instr.fill (fun i=>some (i*size,size)) ((Array.range (len*size)).map (zero[· % zero.size]!)) (parts.map fun x=>(x.1,mv ρ x.2)).toList with
   |some cells=>do Pure.pure (.slice (some (←newRow elem cells)) len len)
   |_=>stuck "buildSlice: a part of the wrong size"):=by
   intro zero hz;have:=JW (ρ:=ρ) (fun i=>some (i*size,size)) parts.toList ((Array.range (len*size)).map (zero[· % zero.size]!));rw[pV zero hz]at this;rw[Array.toList_map,this];cases Instr.fill (fun i=>some (i*size,size)) ((Array.range (len*size)).map (zero[· % zero.size]!)) parts.toList with
   |none=>exact ae
   |some c=>exact SR.bnd (mq elem c) fun a a' e=>af (by rw[e];simp[mv])
  split
  ·exact key #[] (by simp)
  ·refine SR.bnd (qc H elem) fun v v' e=>?_;obtain⟨rfl,e⟩:=e;exact key v'.cells (by rw[←iO,e])
 by_cases h:len*size>2 ^ 24
 ·simp only[h, ↓reduceIte];exact dO (by simp)
 ·simp only[h, ↓reduceIte];exact rest
theorem Mw (t:TypeId) (v:Value):SV P ρ (Instr.loadAt t v) (Instr.loadAt t (mv ρ v)):=
 SR.bnd (kW v) fun a a' e=>by rw[e];exact zH t a
theorem Iz (t:TypeId) (a v:Value):SE P ρ (Instr.storeAt t a v) (Instr.storeAt t (mv ρ a) (mv ρ v)):=
 SR.bnd (kW a) fun b b' e=>by rw[e];exact FQ t b v
theorem I4 (s:TypeId) (a:Value) (f:Nat):SV P ρ (Instr.fieldAt s a f) (Instr.fieldAt s (mv ρ a) f):=by
 unfold Instr.fieldAt;refine SR.az (aF s) fun d=>?_;cases d<;>first|exact ae|skip
 rename_i fields;dsimp only;cases fields[f]? with
 |none=>exact ae
 |some g=>refine SR.bnd (kW a) fun b b' e=>?_;rw[e];exact SR.bnd (Af b g) fun x x' e=>af (by rw[e];simp[mv])
theorem I5 (t:TypeId) (x i:Value):SV P ρ (Instr.indexAt t x i) (Instr.indexAt t (mv ρ x) (mv ρ i)):=by
 unfold Instr.indexAt;refine SR.az (p_ i) fun ki=>?_;obtain⟨k,n⟩:=ki
 have fin:∀(base:Option Addr) (len:Nat) (elem:TypeId),SV P ρ (do
  let tiny:=len≤1&&(match ←underlying t with| .array .. =>true|_=>false)
  match base with
  |some a=>
   if 0≤n∧n<len then Pure.pure (.pointer (some (a.add (n.toNat*(←sizeOf elem)))))
   else if tiny then unsupported (.noEntry "op/indexAddr.an index out of range at an array of length 0 or 1 (ledger 616)")
   else boundsPanic k n len .index
  |none=>boundsPanic k n 0 .index) (do
  let tiny:=len≤1&&(match ←underlying t with| .array .. =>true|_=>false)
  match base.map (bW ρ)with
  |some a=>
   if 0≤n∧n<len then Pure.pure (.pointer (some (a.add (n.toNat*(←sizeOf elem)))))
   else if tiny then unsupported (.noEntry "op/indexAddr.an index out of range at an array of length 0 or 1 (ledger 616)")
   else boundsPanic k n len .index
  |none=>boundsPanic k n 0 .index):=by
  intro base len elem;refine SR.az (aF t) fun d=>?_;cases base with
  |none=>exact iV _ _ _ _
  |some a=>
   simp only[Option.map_some];by_cases h:0≤n∧n<len
   ·simp only[h,and_self, ↓reduceIte];exact SR.az (dm elem) fun s=>af (by simp[mv,jN])
   ·simp only[h, ↓reduceIte];have fb:∀c:Bool,SV P ρ (if c=true then unsupported (.noEntry "op/indexAddr.an index out of range at an array of length 0 or 1 (ledger 616)")else boundsPanic k n len .index) (if c=true then unsupported (.noEntry "op/indexAddr.an index out of range at an array of length 0 or 1 (ledger 616)")else boundsPanic k n len .index):=by
     intro c;cases c
     ·exact iV _ _ _ _
     ·exact aB (by simp)
    exact fb _
 refine SR.az (aF t) fun d=>?_;cases d with
 |array len elem=>exact SR.bnd (kW x) fun a a' e=>by rw[e];exact fin (some a) len elem
 |slice elem=>cases x<;>simp only[mv]<;>first|exact fI|exact fin _ _ elem
 |_=>cases x<;>exact fI
theorem kI (x:Value) (y:Nat) (c:BoundsCode):SE P ρ (Instr.sliceBound x y c) (Instr.sliceBound (mv ρ x) y c):=by
 unfold Instr.sliceBound;refine SR.az (p_ x) fun ki=>?_;obtain⟨k,n⟩:=ki;dsimp only;split
 ·exact af rfl
 ·exact iV _ _ _ _
theorem jP (b:Bool) (len cap:Nat) (l h m:Option Value):SE P ρ (Instr.sliceBounds b len cap l h m) (Instr.sliceBounds b len cap (l.map (mv ρ)) (h.map (mv ρ)) (m.map (mv ρ))):=by
 unfold Instr.sliceBounds
 have h3:∀mm hh:Nat,SE P ρ (do
  let l ←match l with
   |some v=>Instr.sliceBound v hh (if m.isSome then .slice3C else .sliceB)
   |none=>Pure.pure 0
  Pure.pure (l,hh,mm)) (do
  let l ←match l.map (mv ρ)with
   |some v=>Instr.sliceBound v hh (if(m.map (mv ρ)).isSome then .slice3C else .sliceB)
   |none=>Pure.pure 0
  Pure.pure (l,hh,mm)):=by
  intro mm hh;rw[Option.isSome_map];cases l with
  |none=>exact af rfl
  |some v=>exact SR.az (kI _ _ _) fun _=>af rfl
 have h2:∀mm:Nat,SE P ρ (do
  let hh ←match h,m with
   |some v,some _=>Instr.sliceBound v mm .slice3B
   |some v,none=>Instr.sliceBound v mm (if b then .sliceAcap else .sliceAlen)
   |none,none=>Pure.pure len
   |none,some _=>stuck "Slice: max without high"
  let l ←match l with
   |some v=>Instr.sliceBound v hh (if m.isSome then .slice3C else .sliceB)
   |none=>Pure.pure 0
  Pure.pure (l,hh,mm)) (do
  let hh ←match h.map (mv ρ),m.map (mv ρ)with
   |some v,some _=>Instr.sliceBound v mm .slice3B
   |some v,none=>Instr.sliceBound v mm (if b then .sliceAcap else .sliceAlen)
   |none,none=>Pure.pure len
   |none,some _=>stuck "Slice: max without high"
  let l ←match l.map (mv ρ)with
   |some v=>Instr.sliceBound v hh (if(m.map (mv ρ)).isSome then .slice3C else .sliceB)
   |none=>Pure.pure 0
  Pure.pure (l,hh,mm)):=by
  intro mm;cases h with
  |none=>cases m with
   |none=>exact h3 mm len
   |some _=>exact fI
  |some v=>cases m with
   |none=>exact SR.az (kI _ _ _) fun hh=>h3 mm hh
   |some _=>exact SR.az (kI _ _ _) fun hh=>h3 mm hh
 cases m with
 |none=>exact h2 cap
 |some v=>exact SR.az (kI _ _ _) fun mm=>h2 mm
theorem PW (t:TypeId) (x:Value) (l h m:Option Value):SV P ρ (Instr.slice t x l h m) (Instr.slice t (mv ρ x) (l.map (mv ρ)) (h.map (mv ρ)) (m.map (mv ρ))):=by
 unfold Instr.slice;refine SR.az (aF t) fun d=>?_;cases d with
 |string=>
  cases x<;>simp only[mv]<;>first|exact ae|skip
  rename_i s;cases m with
  |some v=>exact fI
  |none=>exact SR.az (jP false s.size s.size l h none) fun y=>af (by simp[mv])
 |slice elem=>
  cases x<;>simp only[mv]<;>first|exact ae|skip
  rename_i a len cap;refine SR.az (jP true len cap l h m) fun y=>?_;refine SR.az (dm elem) fun size=>?_;refine af ?_;cases a with
  |none=>simp only[mv,Option.map_none];split<;>rfl
  |some a=>simp only[mv,Option.map_some];split<;>simp[jN]
 |pointer arr=>
  dsimp only;refine SR.bnd (BH x) fun a a' e=>?_;subst e;refine SR.az (aF arr) fun d=>?_;cases d<;>first|exact ae|skip
  rename_i n elem;refine SR.az (jP false n n l h m) fun y=>?_;refine SR.az (dm elem) fun size=>?_;refine af ?_;simp only[mv,Option.map_some];split<;>simp[jN]
 |_=>cases x<;>exact ae
theorem I7 (t:TypeId) (x:Value) (l h m:Option Value):SV P ρ (Instr.sliceAt t x l h m) (Instr.sliceAt t (mv ρ x) (l.map (mv ρ)) (h.map (mv ρ)) (m.map (mv ρ))):=by
 unfold Instr.sliceAt;refine SR.az (aF t) fun d=>?_;cases d with
 |array n elem=>refine SR.bnd (kW x) fun a a' e=>?_;subst e;refine SR.az (jP false n n l h m) fun y=>?_;refine SR.az (dm elem) fun size=>?_;refine af ?_;simp only[mv,Option.map_some];split<;>simp[jN]
 |_=>exact PW t x l h m
theorem PT (t:TypeId) (x:Value) (f:Nat):SV P ρ (Instr.field t x f) (Instr.field t (mv ρ x) f):=by
 unfold Instr.field;refine SR.az (aF t) fun d=>?_;cases d<;>first|exact ae|skip
 rename_i fields;dsimp only;cases fields[f]? with
 |none=>exact ae
 |some g=>exact SR.bnd (PG x) fun c c' e=>by rw[e];exact jS _ _ _
theorem PU (t:TypeId) (x i:Value):SV P ρ (Instr.index t x i) (Instr.index t (mv ρ x) (mv ρ i)):=by
 unfold Instr.index;refine SR.az (p_ i) fun ki=>?_;obtain⟨k,n⟩:=ki;refine SR.az (aF t) fun d=>?_;cases d with
 |array len elem=>
  cases x<;>simp only[mv]<;>first|exact ae|skip
  split
  ·exact SR.az (dm elem) fun s=>jS _ _ _
  ·exact iV _ _ _ _
 |string=>
  cases x<;>simp only[mv]<;>first|exact ae|skip
  split
  ·exact af (by simp[mv])
  ·exact iV _ _ _ _
 |_=>cases x<;>exact ae
theorem I1 (x:Value) (i:Nat):SV P ρ (Instr.extract x i) (Instr.extract (mv ρ x) i):=by
 cases x<;>simp only[mv,Instr.extract]<;>first|exact ae|skip
 rename_i vs;rw[Array.getElem?_map];cases vs[i]? with
 |none=>exact ae
 |some v=>exact af rfl
theorem wH (t:TypeId) (x:Value):SV P ρ (Instr.makeInterface t x) (Instr.makeInterface t (mv ρ x)):=by unfold Instr.makeInterface;refine SR.az (aF t) fun d=>?_;cases d<;>first|exact ae|exact af (by simp[mv])
theorem FV (f:Fn) (a b:Array Value):SV P ρ (Instr.makeFunc f a b) (Instr.makeFunc f (a.map (mv ρ)) (b.map (mv ρ))):=af (by simp[mv])
end Go.Ren
namespace Go.Ren
set_option linter.unusedSimpArgs false
set_option linter.unusedVariables false
variable {P:Program} {ρ:Nat→Nat}
theorem dN {α β γ δ:Type} {Q:γ→δ→Prop} (e:RuntimeError) (h:X5 e=true) (f:α→Sem γ) (g:β→Sem δ):SR P ρ Q ((runtimePanic e:Sem α)>>= f) ((runtimePanic e:Sem β)>>= g):=
 SR.bnd (Q:=fun _ _=>False) (b_ e h) fun _ _ x=>x.elim
theorem Dl (H:OkP P ρ) (t:TypeId) (l c:Value):SV P ρ (Instr.makeSlice t l c) (Instr.makeSlice t (mv ρ l) (mv ρ c)):=by
 unfold Instr.makeSlice;refine SR.az (aF t) fun d=>?_;cases d<;>first|exact ae|skip
 rename_i elem;refine SR.az (rA l) fun len=>SR.az (rA c) fun cap=>SR.az (dU elem) fun info=>?_;dsimp only;split
 ·split
  ·exact dN _ rfl _ _
  ·split
   ·exact dN _ rfl _ _
   ·exact SR.az (eH _) fun n=>dN _ rfl _ _
 ·refine SR.az (zz _) fun _=>SR.az (dm elem) fun size=>?_
  have key:∀zero:Array Value,zero.map (mv ρ)=zero→SV P ρ (do
   let a ←newRow elem ((Array.range ((IntKind.i64.wrap cap).toNat*size)).map (zero[· % zero.size]!))
   Pure.pure (.slice (some a) (IntKind.i64.wrap len).toNat (IntKind.i64.wrap cap).toNat)) (do
   let a ←newRow elem ((Array.range ((IntKind.i64.wrap cap).toNat*size)).map (zero[· % zero.size]!))
   Pure.pure (.slice (some a) (IntKind.i64.wrap len).toNat (IntKind.i64.wrap cap).toNat)):=by
   intro zero hz;have:=mq (P:=P) (ρ:=ρ) elem ((Array.range ((IntKind.i64.wrap cap).toNat*size)).map (zero[· % zero.size]!));rw[pV zero hz]at this;exact SR.bnd this fun a a' e=>af (by rw[e];simp[mv])
  split
  ·exact key #[] (by simp)
  ·refine SR.bnd (qc H elem) fun v v' e=>?_;obtain⟨rfl,e⟩:=e;exact key v'.cells (by rw[←iO,e])
theorem Fx (v:Value):SE P ρ (Builtin.lenOf v) (Builtin.lenOf (mv ρ v)):=by cases v<;>simp only[mv,Builtin.lenOf]<;>first|exact af rfl|exact ae
theorem oh (size n:Nat) (v:Value):SR P ρ (fun c c'=>c'=c.map (mv ρ)) (Builtin.firstCells size n v) (Builtin.firstCells size n (mv ρ v)):=by
 cases v<;>simp only[mv,Builtin.firstCells]<;>first|exact ae|skip
 ·exact af (by simp[mv,Function.comp_def])
 ·rename_i a _ _;cases a with
  |none=>exact af (by simp)
  |some a=>exact lY _ _
theorem qf (z:Array Value) (h:z.map (mv ρ)=z) (n:Nat):(Builtin.zeroCells z n).map (mv ρ)=Builtin.zeroCells z n:=pV z h _
theorem sW (a:Addr) (n:Nat):SE P ρ (Builtin.holdsCells a n) (Builtin.holdsCells (bW ρ a) n):=by unfold Builtin.holdsCells;refine SR.az (fT a.block) fun s=>?_;cases s<;>exact af rfl
theorem Fz (H:OkP P ρ) (size sLen n:Nat) (b:Option Addr) (x:Value):SE P ρ (Builtin.mayShare size sLen n b x) (Builtin.mayShare size sLen n (b.map (bW ρ)) (mv ρ x)):=by
 unfold Builtin.mayShare
 have fin:∀there:Bool,SE P ρ (do
  if !there then return true
  match x with
  | .slice (some b') _ _=>do Pure.pure (!(←Builtin.holdsCells b' (n*size))||b.any (·.block==b'.block))
  |_=>Pure.pure false) (do
  if !there then return true
  match mv ρ x with
  | .slice (some b') _ _=>do Pure.pure (!(←Builtin.holdsCells b' (n*size))||(b.map (bW ρ)).any (·.block==b'.block))
  |_=>Pure.pure false):=by
  intro there;cases there with
  |false=>exact af rfl
  |true=>
   simp only[Bool.not_true,Bool.false_eq_true, ↓reduceIte];cases x<;>simp only[mv]<;>first|exact af rfl|skip
   rename_i a _ _;cases a with
   |none=>exact af rfl
   |some a=>
    refine SR.az (sW a _) fun y=>af ?_;cases b with
    |none=>rfl
    |some b=>simp[bW,yG H.inj]
 cases b with
 |none=>exact fin true
 |some a=>refine SR.az (sW a _) fun y=>?_;simp only[Option.map_some,jN]at fin ⊢;exact SR.az (oV _) fun z=>fin _
section
variable (elem:TypeId) (size:Nat) (sLen sCap:Nat) (zeros:Bool) (n:Nat)
abbrev Ec (x:Value):Sem (Array Value):=
 if !zeros then Builtin.firstCells size n x else if n*size=0 then Pure.pure #[]else do Pure.pure (Builtin.zeroCells (←zeroValue elem).cells n)
theorem FM (H:OkP P ρ) (x:Value):SR P ρ (fun c c'=>c'=c.map (mv ρ)) (Ec elem size zeros n x) (Ec elem size zeros n (mv ρ x)):=by
 unfold Ec;cases zeros with
 |false=>exact oh _ _ _
 |true=>
  simp only[Bool.not_true,Bool.false_eq_true, ↓reduceIte];split
  ·exact af (by simp)
  ·exact SR.bnd (qc H elem) fun v v' e=>af (by rw[e.1,qf];rw[←iO,e.2])
abbrev yD (base:Option Addr) (x:Value):Sem Value:=do
 let newCap ←choose (.appendCap (sLen+n) sCap elem)
 askRoom (newCap*(←typeInfo elem).bytes)
 let old ←Builtin.firstCells size sLen (.slice base sLen sCap);let new ←Ec elem size zeros n x;let rest:=Builtin.zeroCells (←zeroValue elem).cells (newCap-(sLen+n))
 Pure.pure (.slice (some (←newRow elem (old++new++rest))) (sLen+n) newCap)
theorem Mo (H:OkP P ρ) (base:Option Addr) (x:Value):SV P ρ (yD elem size sLen sCap zeros n base x) (yD elem size sLen sCap zeros n (base.map (bW ρ)) (mv ρ x)):=by refine SR.az (eH _) fun c=>SR.az (dU elem) fun i=>SR.az (zz _) fun _=>?_;have e1:=oh (P:=P) (ρ:=ρ) size sLen (.slice base sLen sCap);simp only[mv]at e1;refine SR.bnd e1 fun old old' eo=>SR.bnd (FM elem size zeros n H x) fun new new' en=>SR.bnd (qc H elem) fun z z' ez=>?_;obtain⟨rfl,ez⟩:=ez;subst eo en;have hz:(Builtin.zeroCells z'.cells (c-(sLen+n))).map (mv ρ)=Builtin.zeroCells z'.cells (c-(sLen+n)):=qf _ (by rw[←iO,ez]) _;have e2:=mq (P:=P) (ρ:=ρ) elem (old++new++Builtin.zeroCells z'.cells (c-(sLen+n)));rw[Array.map_append,Array.map_append,hz]at e2;exact SR.bnd e2 fun a a' e=>af (by rw[e];simp[mv])
abbrev yE (base:Option Addr) (x:Value):Sem Value:=do
 if sLen+n≤sCap then
  let new ←Ec elem size zeros n x
  if let some a:=base then storeCells (a.add (sLen*size)) new.toList
  Pure.pure (.slice base (sLen+n) sCap)
 else
  if((sLen+n:Nat):Int)>IntKind.i64.max∧(zeros∨(←typeInfo elem).bytes=0)then runtimePanic (.error "growslice: len out of range")
  if Builtin.nextslicecap (sLen+n) sCap*(←typeInfo elem).bytes>2 ^ 48 then(if zeros then runtimePanic (.error "growslice: len out of range")else do
   if !(←Builtin.mayShare size sLen n base x)then mark .noRoom
   unsupported (.resourceLimit "append: a slice or a string whose bytes no memory bears"))
  yD elem size sLen sCap zeros n base x
theorem BL (H:OkP P ρ) (base:Option Addr) (x:Value):SV P ρ (yE elem size sLen sCap zeros n base x) (yE elem size sLen sCap zeros n (base.map (bW ρ)) (mv ρ x)):=by
 unfold yE;by_cases h:sLen+n≤sCap
 ·rw[if_pos h,if_pos h];refine SR.bnd (FM elem size zeros n H x) fun new new' en=>?_;subst en;cases base with
  |none=>exact af (by simp[mv])
  |some a=>simp only[Option.map_some,jN,Array.toList_map];exact SR.az (kJ _ _ _) fun _=>af (by simp[mv])
 ·rw[if_neg h,if_neg h];refine SR.az (dU elem) fun i=>?_;have g:=Mo (P:=P) (ρ:=ρ) elem size sLen sCap zeros n H base x
  have g2:SV P ρ (do
   if Builtin.nextslicecap (sLen+n) sCap*(←typeInfo elem).bytes>2 ^ 48 then(if zeros then runtimePanic (.error "growslice: len out of range")else do
    if !(←Builtin.mayShare size sLen n base x)then mark .noRoom
    unsupported (.resourceLimit "append: a slice or a string whose bytes no memory bears"))
   yD elem size sLen sCap zeros n base x) (do
   if Builtin.nextslicecap (sLen+n) sCap*(←typeInfo elem).bytes>2 ^ 48 then(if zeros then runtimePanic (.error "growslice: len out of range")else do
    if !(←Builtin.mayShare size sLen n (base.map (bW ρ)) (mv ρ x))then mark .noRoom
    unsupported (.resourceLimit "append: a slice or a string whose bytes no memory bears"))
   yD elem size sLen sCap zeros n (base.map (bW ρ)) (mv ρ x)):=by
   refine SR.az (dU elem) fun i=>?_;by_cases h2:Builtin.nextslicecap (sLen+n) sCap*i.bytes>2 ^ 48
   ·rw[if_pos h2,if_pos h2];cases zeros with
    |true=>rw[if_pos rfl,if_pos rfl];exact dN _ rfl _ _
    |false=>
     refine SR.az ?_ fun _=>g;refine SR.az (Fz H _ _ _ _ _) fun b=>?_;cases b with
     |true=>exact aB (by simp)
     |false=>exact SR.az (CY .noRoom rfl) fun _=>aB (by simp)
   ·rw[if_neg h2,if_neg h2];exact g
  by_cases h1:((sLen+n:Nat):Int)>IntKind.i64.max∧(zeros=true∨i.bytes=0)
  ·rw[if_pos h1,if_pos h1];exact dN _ rfl _ _
  ·rw[if_neg h1,if_neg h1];exact g2
end
theorem Mq (H:OkP P ρ) (ts:Array TypeId) (t:TypeId) (args:Array Value):SV P ρ (Builtin.append_ ts t args) (Builtin.append_ ts t (args.map (mv ρ))):=by
 unfold Builtin.append_;rw[Array.getElem?_map,Array.getElem?_map];cases ts[0]? with
 |none=>exact ae
 |some sT=>
  cases args[0]? with
  |none=>exact ae
  |some s=>
   cases args[1]? with
   |none=>exact ae
   |some x=>
    refine SR.az (aF sT) fun d=>?_;cases d<;>first|exact ae|skip
    rename_i elem;cases s<;>first|exact ae|skip
    rename_i base sLen sCap;rw[show mv ρ (Value.slice base sLen sCap)= .slice (base.map (bW ρ)) sLen sCap by simp[mv]];refine SR.az (dm elem) fun size=>?_
    have top:∀zeros:Bool,SV P ρ (do
     let n ←if zeros then do
         let l:=IntKind.i64.wrap (←asInt x)
         if l<0 then runtimePanic (.error "makeslice: len out of range")
         if l*(←typeInfo elem).bytes>2 ^ 48 then
          let made ←choose (.extern "append.ofMake.carriedOut" 2)
          runtimePanic (.error (if made==1 then "makeslice: len out of range" else "growslice: len out of range"))
         Pure.pure l.toNat
      else Builtin.lenOf x
     yE elem size sLen sCap zeros n base x) (do
     let n ←if zeros then do
         let l:=IntKind.i64.wrap (←asInt (mv ρ x))
         if l<0 then runtimePanic (.error "makeslice: len out of range")
         if l*(←typeInfo elem).bytes>2 ^ 48 then
          let made ←choose (.extern "append.ofMake.carriedOut" 2)
          runtimePanic (.error (if made==1 then "makeslice: len out of range" else "growslice: len out of range"))
         Pure.pure l.toNat
      else Builtin.lenOf (mv ρ x)
     yE elem size sLen sCap zeros n (base.map (bW ρ)) (mv ρ x)):=by
     intro zeros;cases zeros with
     |false=>exact SR.az (Fx x) fun n=>BL _ _ _ _ _ _ H _ _
     |true=>
      refine SR.az (rA x) fun l=>?_;by_cases h1:IntKind.i64.wrap l<0
      ·rw[if_pos h1,if_pos h1];exact dN _ rfl _ _
      ·rw[if_neg h1,if_neg h1];refine SR.az (dU elem) fun i=>?_;by_cases h2:IntKind.i64.wrap l*(i.bytes:Int)>2 ^ 48
       ·rw[if_pos h2,if_pos h2];exact SR.az (eH _) fun m=>dN _ rfl _ _
       ·rw[if_neg h2,if_neg h2];exact BL _ _ _ _ _ _ H _ _
    cases ts[1]? with
    |none=>exact top false
    |some xT=>exact SR.az (aF xT) fun d=>top _
end Go.Ren
namespace Go.Ren
set_option linter.unusedSimpArgs false
set_option linter.unusedVariables false
variable {P:Program} {ρ:Nat→Nat}
theorem Bu {α β:Type} {f f':α→β→Sem (ForInStep β)} (h:∀a b,SE P ρ (f a b) (f' a b)):∀(l:List α) (b:β),SE P ρ (forIn l b f) (forIn l b f'):=by
 intro l;induction l with
 |nil=>intro b;exact af rfl
 |cons x l ih=>
  intro b;rw[List.forIn_cons,List.forIn_cons];refine SR.az (h x b) fun s=>?_;cases s with
  |done b=>exact af rfl
  |yield b=>exact ih b
theorem Bt {α β:Type} {f f':α→β→Sem (ForInStep β)} (h:∀a b,SE P ρ (f a b) (f' a b)) (l:Array α) (b:β):SE P ρ (forIn l b f) (forIn l b f'):=by rw[←Array.forIn_toList, ←Array.forIn_toList];exact Bu h _ _
theorem Bv {β:Type} {f f':Nat→β→Sem (ForInStep β)} (h:∀a b,SE P ρ (f a b) (f' a b)) (n:Nat) (b:β):SE P ρ (forIn [0:n] b f) (forIn [0:n] b f'):=by rw[Std.Legacy.Range.forIn_eq_forIn_range',Std.Legacy.Range.forIn_eq_forIn_range'];exact Bu h _ _
theorem RF (ts:Array TypeId) (t:TypeId) (args:Array Value):SV P ρ (Builtin.copy_ ts t args) (Builtin.copy_ ts t (args.map (mv ρ))):=by
 unfold Builtin.copy_;rw[Array.getElem?_map,Array.getElem?_map];cases ts[0]? with
 |none=>exact ae
 |some sT=>
  cases args[0]? with
  |none=>exact ae
  |some s=>
   cases args[1]? with
   |none=>exact ae
   |some x=>
    refine SR.az (aF sT) fun d=>?_;cases d<;>first|exact ae|skip
    rename_i elem;cases s<;>first|exact ae|skip
    rename_i base sLen sCap;rw[show mv ρ (Value.slice base sLen sCap)= .slice (base.map (bW ρ)) sLen sCap by simp[mv]];refine SR.az (Fx x) fun n=>SR.az (dm elem) fun size=>SR.bnd (oh _ _ x) fun c c' e=>?_;subst e;cases base with
    |none=>exact af (by simp[mv,goInt])
    |some a=>rw[Array.toList_map];exact SR.az (kJ a c.toList 0) fun _=>af (by simp[mv,goInt])
theorem VM (ts:Array TypeId) (t:TypeId) (args:Array Value):SV P ρ (Builtin.len_ ts t args) (Builtin.len_ ts t (args.map (mv ρ))):=by
 unfold Builtin.len_;rw[Array.getElem?_map];cases ts[0]? with
 |none=>exact ae
 |some sT=>
  cases args[0]? with
  |none=>exact ae
  |some x=>
   rw[Option.map_some];refine SR.az (aF sT) fun d=>?_;cases d with
   |string=>cases x<;>simp only[mv]<;>first|exact ae|exact af (by simp[mv,goInt])
   |array n e=>exact af (by simp[mv,goInt])
   |pointer arr=>refine SR.az (aF arr) fun d=>?_;cases d<;>first|exact ae|exact af (by simp[mv,goInt])
   |slice e=>cases x<;>simp only[mv]<;>first|exact ae|exact af (by simp[mv,goInt])
   |map k v=>
    cases x<;>simp only[mv]<;>first|exact ae|skip
    rename_i r;cases r with
    |none=>exact af (by simp[mv,goInt])
    |some r=>refine SR.bnd (mh r) fun o o' e=>?_;subst e;cases o<;>first|exact ae|exact af (by simp[mv,goInt,lM])
   |chan d v=>
    cases x<;>simp only[mv]<;>first|exact ae|skip
    rename_i r;cases r with
    |none=>exact af (by simp[mv,goInt])
    |some r=>refine SR.bnd (mh r) fun o o' e=>?_;subst e;cases o<;>first|exact ae|exact af (by simp[mv,goInt,lM])
   |_=>cases x<;>exact ae
theorem Md (r:Nat) (o:Obj) (hp:∀c t,o≠ .pending c t):SE P ρ (setObj r o) (setObj (ρ r) (lM ρ o)):=.setObj hp (.pure rfl)
theorem PS (H:OkP P ρ) (ts:Array TypeId) (t:TypeId) (args:Array Value):SV P ρ (Builtin.clear_ ts t args) (Builtin.clear_ ts t (args.map (mv ρ))):=by
 unfold Builtin.clear_;rw[Array.getElem?_map];cases ts[0]? with
 |none=>exact ae
 |some sT=>
  cases ha:args[0]? with
  |none=>exact ae
  |some x=>
   rw[Option.map_some];refine SR.az (aF sT) fun d=>?_;have fin:SV P ρ (Pure.pure (.tuple #[])) (Pure.pure (.tuple #[])):=af (by simp[mv]);cases x with
   |map r=>
    simp only[mv];cases r with
    |none=>exact fin
    |some r=>
     refine SR.bnd (mh r) fun o o' e=>?_;subst e;cases o<;>first|exact fI|skip
     rename_i es clock;exact SR.az (Md r (.map #[] clock) (by simp)) fun _=>fin
   |slice a n c=>
    simp only[mv];cases a with
    |none=>exact fin
    |some a=>
     cases n with
     |zero=>exact fin
     |succ n=>
      cases d<;>first|exact fI|skip
      rename_i elem;refine SR.bnd (qc H elem) fun z z' e=>?_;obtain⟨rfl,e⟩:=e;have hz:(Builtin.zeroCells z'.cells (n+1)).map (mv ρ)=Builtin.zeroCells z'.cells (n+1):=qf _ (by rw[←iO,e]) _;have:=kJ (P:=P) (ρ:=ρ) a (Builtin.zeroCells z'.cells (n+1)).toList 0;rw[←Array.toList_map,hz]at this;exact SR.az this fun _=>fin
   |_=>cases d<;>exact fI
theorem rE (op:BinOp) (a b:ByteArray):SV P ρ (Op.stringOp op a b) (Op.stringOp op a b):=by
 unfold Op.stringOp;cases op<;>first|exact ae|exact af (by simp[mv])|skip
 dsimp only;split
 ·exact aB (by simp)
 ·exact af (by simp[mv])
theorem RH (a b:Value):SV P ρ (Builtin.max2 a b) (Builtin.max2 (mv ρ a) (mv ρ b)):=by
 cases a with
 |pointer p=>
  cases p with
  |none=>cases b with
   |pointer q=>cases q<;>first|exact ae|exact aB (by simp)
   |_=>exact ae
  |some p=>cases b<;>exact aB (by simp)
 |int k n=>cases b with
  |pointer q=>cases q<;>first|exact ae|exact aB (by simp)
  |int k' n'=>simp only[mv];exact af (by simp[mv])
  |_=>exact ae
 |float k n=>cases b with
  |pointer q=>cases q<;>first|exact ae|exact aB (by simp)
  |float k' n'=>simp only[mv,Builtin.max2];split<;>first|exact af (by simp[mv])|exact SR.az (eH _) fun _=>af (by simp[mv])
  |_=>exact ae
 |string s=>cases b with
  |pointer q=>cases q<;>first|exact ae|exact aB (by simp)
  |string s'=>simp only[mv,Builtin.max2];exact SR.kZ (rE _ _ _) fun v=>SR.az (rU v) fun x=>af (by simp[mv])
  |_=>exact ae
 |_=>cases b with
  |pointer q=>cases q<;>first|exact ae|exact aB (by simp)
  |_=>exact ae
theorem VN (ts:Array TypeId) (t:TypeId) (args:Array Value):SV P ρ (Builtin.max_ ts t args) (Builtin.max_ ts t (args.map (mv ρ))):=by
 unfold Builtin.max_;rw[Array.toList_map];have key:∀(l:List Value) (x:Value),SV P ρ (l.foldlM Builtin.max2 x) ((l.map (mv ρ)).foldlM Builtin.max2 (mv ρ x)):=by
  intro l;induction l with
  |nil=>intro x;exact af rfl
  |cons y l ih=>intro x;exact SR.kZ (RH x y) fun v=>ih v
 cases args.toList with
 |nil=>exact ae
 |cons x rest=>exact key rest x
theorem RI (a b:Value):SV P ρ (Builtin.min2 a b) (Builtin.min2 (mv ρ a) (mv ρ b)):=by
 cases a with
 |pointer p=>
  cases p with
  |none=>cases b with
   |pointer q=>cases q<;>first|exact ae|exact aB (by simp)
   |_=>exact ae
  |some p=>cases b<;>exact aB (by simp)
 |int k n=>cases b with
  |pointer q=>cases q<;>first|exact ae|exact aB (by simp)
  |int k' n'=>simp only[mv];exact af (by simp[mv])
  |_=>exact ae
 |float k n=>cases b with
  |pointer q=>cases q<;>first|exact ae|exact aB (by simp)
  |float k' n'=>simp only[mv,Builtin.min2];split<;>first|exact af (by simp[mv])|exact SR.az (eH _) fun _=>af (by simp[mv])
  |_=>exact ae
 |string s=>cases b with
  |pointer q=>cases q<;>first|exact ae|exact aB (by simp)
  |string s'=>simp only[mv,Builtin.min2];exact SR.kZ (rE _ _ _) fun v=>SR.az (rU v) fun x=>af (by simp[mv])
  |_=>exact ae
 |_=>cases b with
  |pointer q=>cases q<;>first|exact ae|exact aB (by simp)
  |_=>exact ae
theorem VO (ts:Array TypeId) (t:TypeId) (args:Array Value):SV P ρ (Builtin.min_ ts t args) (Builtin.min_ ts t (args.map (mv ρ))):=by
 unfold Builtin.min_;rw[Array.toList_map];have key:∀(l:List Value) (x:Value),SV P ρ (l.foldlM Builtin.min2 x) ((l.map (mv ρ)).foldlM Builtin.min2 (mv ρ x)):=by
  intro l;induction l with
  |nil=>intro x;exact af rfl
  |cons y l ih=>intro x;exact SR.kZ (RI x y) fun v=>ih v
 cases args.toList with
 |nil=>exact ae
 |cons x rest=>exact key rest x
theorem xV (ts:Array TypeId) (t:TypeId) (args:Array Value):SV P ρ (Builtin.unsafeString_ ts t args) (Builtin.unsafeString_ ts t (args.map (mv ρ))):=by
 unfold Builtin.unsafeString_;obtain⟨l⟩:=args
 match l with
 | []=>exact ae
 | [x]=>exact ae
 |x::y::z::r=>exact ae
 | [x,y]=>
   cases x<;>first|exact ae|skip
   rename_i p;rw[show(⟨[Value.pointer p,y]⟩:Array Value).map (mv ρ)= #[Value.pointer (p.map (bW ρ)),mv ρ y] by simp[mv]];refine SR.az (rA y) fun n=>?_;cases ts[0]? with
   |none=>exact ae
   |some pt=>
    dsimp only;by_cases h1:n<0
    ·rw[if_pos h1,if_pos h1];exact dN _ rfl _ _
    rw[if_neg h1,if_neg h1];by_cases h2:n>IntKind.i64.max
    ·rw[if_pos h2,if_pos h2];exact dO (by simp)
    rw[if_neg h2,if_neg h2];cases p with
    |none=>
     simp only[Option.map_none];split
     ·exact af (by simp[mv])
     ·exact b_ _ rfl
    |some a=>
     simp only[Option.map_some];split
     ·exact af (by simp[mv])
     ·refine SR.az (vW pt) fun e=>SR.az (rC a e _) fun b=>?_;cases b with
      |false=>exact aB (by simp)
      |true=>exact SR.az (CW _ _ _) fun s=>SR.az (Bw _ _) fun _=>af (by simp[mv])
theorem tX (ts:Array TypeId) (t:TypeId) (args:Array Value):SV P ρ (Builtin.unsafeSliceData_ ts t args) (Builtin.unsafeSliceData_ ts t (args.map (mv ρ))):=by
 unfold Builtin.unsafeSliceData_;obtain⟨l⟩:=args
 match l with
 | []=>exact ae
 |x::y::r=>exact ae
 | [x]=>
   cases x<;>first|exact ae|skip
   rename_i a len c;rw[show(⟨[Value.slice a len c]⟩:Array Value).map (mv ρ)= #[Value.slice (a.map (bW ρ)) len c] by simp[mv]];cases a with
   |none=>exact af (by simp[mv])
   |some a=>
    have key:SV P ρ (if c≠0 then Pure.pure (.pointer (some a))else do
          if(←viewAt a.block).isSome then Pure.pure (.pointer (some a))
          else Pure.pure (.pointer (some ⟨←newObj (.view a (←elemOf t)),0,none⟩)))
     (if c≠0 then Pure.pure (.pointer (some (bW ρ a)))else do
       if(←viewAt (bW ρ a).block).isSome then Pure.pure (.pointer (some (bW ρ a)))
       else Pure.pure (.pointer (some ⟨←newObj (.view (bW ρ a) (←elemOf t)),0,none⟩))):=by
     split
     ·exact af (by simp[mv])
     ·refine SR.bnd (rW a.block) fun x y e=>?_;subst e;cases x with
      |some z=>exact af (by simp[mv])
      |none=>refine SR.az (vW t) fun e=>?_;exact SR.bnd (o8 (.view a e) (by simp)) fun r r' er=>af (by rw[er];simp[mv,bW])
    exact key
end Go.Ren
