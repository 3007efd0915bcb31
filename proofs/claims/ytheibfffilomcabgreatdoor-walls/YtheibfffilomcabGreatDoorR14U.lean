import Derived.Test.YtheibfffilomcabGreatDoorR10U
set_option linter.all false
set_option maxHeartbeats 4000000
namespace Go.Ren
set_option linter.unusedSimpArgs false
set_option linter.unusedVariables false
variable {P:Program} {ρ:Nat→Nat}
structure OkG (P:Program) (ρ:Nat→Nat):Prop extends OkP P ρ where
 Q5:∀b,(ρ b<P.globals.size↔b<P.globals.size)
theorem nR {γ δ:Type} {T:γ→δ→Prop} {f:Program→Sem γ} {f':Program→Sem δ} (hf:True→SR P ρ T (f P) (f' P)):SR P ρ T (program>>= f) (program>>= f'):=
 SR.program (hf trivial)
theorem xG (op:BinOp) (k:IntKind) (a b:Int):SV P ρ (Op.intArith op k a b) (Op.intArith op k a b):=by unfold Op.intArith;cases op<;>first|exact ae|exact af (by simp[mv])
theorem Mv (op:BinOp) (k:IntKind) (a b:Int):SV P ρ (Op.intDiv op k a b) (Op.intDiv op k a b):=by
 unfold Op.intDiv;split
 ·exact b_ _ rfl
 ·cases op<;>first|exact ae|exact af (by simp[mv])
theorem zG (op:BinOp) (k:IntKind) (a b:Int):SV P ρ (Op.intBits op k a b) (Op.intBits op k a b):=by unfold Op.intBits;cases op<;>first|exact ae|exact af (by simp[mv])
theorem FX (op:BinOp) (k:IntKind) (a:Int) (k':IntKind) (b:Int):SV P ρ (Op.shift op k a k' b) (Op.shift op k a k' b):=by
 unfold Op.shift;split
 ·exact b_ _ rfl
 ·cases op<;>first|exact ae|exact af (by simp[mv])
theorem Mt (op:BinOp) (a b:Int):SV P ρ (Op.intCmp op a b) (Op.intCmp op a b):=by unfold Op.intCmp;cases op<;>first|exact ae|exact af (by simp[mv])
theorem PX (op:UnOp) (x:Value):SV P ρ (Op.unary op x) (Op.unary op (mv ρ x)):=by
 cases op<;>cases x<;>simp only[mv]<;>first|exact ae|exact xG _ _ _ _|exact zG _ _ _ _|exact af (by simp[mv])|skip
 all_goals (rename_i p;cases p<;>first|exact ae|exact aB (by simp))
theorem IA (t:TypeId):SE P ρ (typeStr t) (typeStr t):=by
 unfold typeStr;refine SR.az (dU t) fun i=>?_;dsimp only;split
 ·exact aB (by simp)
 ·exact af rfl
theorem Lv (hi:∀a b,ρ a=ρ b→a=b) (x y:Option Nat):(x.map ρ==y.map ρ)=(x==y):=by cases x<;>cases y<;>simp[yG hi]
theorem Iw (H:OkG P ρ):∀(d:Nat) (t:TypeId) (x y:Value),SE P ρ (Op.equalIn d t x y) (Op.equalIn d t (mv ρ x) (mv ρ y)):=by
 intro d;induction d with
 |zero=>intro t x y;exact aB (by simp)
 |succ d ih=>
  intro t x y;unfold Op.equalIn;refine SR.az (aF t) fun dd=>?_;cases dd with
  |bool=>cases x with
   |bool a=>cases y with
    |bool b=>simp only[mv];exact af rfl
    |_=>exact ae
   |_=>first|exact ae|(cases y<;>exact ae)
  |float k=>cases x with
   |float k a=>cases y with
    |float k' b=>simp only[mv];split<;>first|exact ae|exact af rfl
    |_=>exact ae
   |_=>first|exact ae|(cases y<;>exact ae)
  |complex k=>cases x with
   |complex k a c=>cases y with
    |complex k' b e=>simp only[mv];split<;>first|exact ae|exact af rfl
    |_=>exact ae
   |_=>first|exact ae|(cases y<;>exact ae)
  |string=>cases x with
   |string a=>cases y with
    |string b=>simp only[mv];exact af rfl
    |_=>exact ae
   |_=>first|exact ae|(cases y<;>exact ae)
  |unsafePointer=>cases x with
   |pointer a=>cases y with
    |pointer b=>simp only[mv];exact zB H.toOkP _ _
    |_=>exact ae
   |_=>first|exact ae|(cases y<;>exact ae)
  |chan a b=>cases x with
   |chan a=>cases y with
    |chan b=>simp only[mv];exact af (by rw[Lv H.inj])
    |_=>exact ae
   |_=>first|exact ae|(cases y<;>exact ae)
  |slice e=>cases x with
   |slice p _ _=>cases y with
    |slice q _ _=>simp only[mv];cases p<;>cases q<;>first|exact af rfl|exact ae
    |_=>cases p<;>exact ae
   |_=>first|exact ae|(cases y<;>exact ae)
  |map a b=>cases x with
   |map p=>cases y with
    |map q=>simp only[mv];cases p<;>cases q<;>first|exact af rfl|exact ae
    |_=>cases p<;>exact ae
   |_=>first|exact ae|(cases y<;>exact ae)
  |func a b c=>cases x with
   |nilFunc=>cases y with
    |nilFunc=>simp only[mv];exact af rfl
    |func=>simp only[mv];exact af rfl
    |_=>exact ae
   |func=>cases y with
    |nilFunc=>simp only[mv];exact af rfl
    |_=>exact ae
   |_=>first|exact ae|(cases y<;>exact ae)
  |pointer elem=>cases x with
   |pointer p=>cases y with
    |pointer q=>
     simp only[mv];cases p with
     |none=>cases q<;>exact af rfl
     |some p=>cases q with
      |none=>exact af rfl
      |some q=>
       refine SR.az (dm elem) fun n=>?_;by_cases h:n≠0
       ·rw[if_pos h,if_pos h];exact xw H.toOkP _ _
       ·rw[if_neg h,if_neg h,qG H.inj];cases (p==q)with
        |true=>exact af rfl
        |false=>exact SR.az (eH _) fun n=>af rfl
    |_=>cases p<;>exact ae
   |_=>first|exact ae|(cases y<;>exact ae)
  |int k=>cases x with
   |int k1 a=>cases y with
    |int k2 b=>simp only[mv];split<;>first|exact ae|exact af rfl
    |pointer q=>cases q with
     |none=>exact aB (by simp)
     |some q=>
      simp only[mv,Option.map_some];rcases a with(_|a)|a
      ·exact af rfl
      ·exact aB (by simp)
      ·exact aB (by simp)
    |_=>exact ae
   |pointer p=>cases y with
    |int k2 b=>cases p with
     |none=>exact aB (by simp)
     |some p=>
      simp only[mv,Option.map_some];rcases b with(_|b)|b
      ·exact af rfl
      ·exact aB (by simp)
      ·exact aB (by simp)
    |pointer q=>cases p with
     |none=>exact aB (by simp)
     |some p=>cases q with
      |none=>exact aB (by simp)
      |some q=>
       simp only[mv,Option.map_some];refine SR.bnd (bz p) fun a a' ea=>SR.bnd (bz q) fun b b' eb=>?_;subst ea eb;refine nR fun hpr=>?_;have hd:decide (ρ a.1.block<P.globals.size)=decide (a.1.block<P.globals.size):=decide_eq_decide.2 (H.Q5 _);rw[show(bW ρ a.1).block=ρ a.1.block from rfl,show(bW ρ b.1).block=ρ b.1.block from rfl,yG H.inj,hd];split
       ·exact SR.az (ku _) fun u=>SR.az (ku _) fun v=>af rfl
       ·refine SR.az (dU t) fun i=>?_;rw[qG H.inj];have fin:SE P ρ (if(a.1==b.1)=true then Pure.pure true else unsupported .addressObserved) (if(a.1==b.1)=true then Pure.pure true else unsupported .addressObserved):=by
         split
         ·exact af rfl
         ·exact aB (by simp)
        split
        ·exact fin
        ·exact aB (by simp)
    |_=>cases p<;>exact aB (by simp)
   |_=>first|exact ae|(cases y with
    |pointer q=>exact aB (by simp)
    |_=>exact ae)
  |interface ms=>cases x with
   |nilIface=>cases y with
    |nilIface=>simp only[mv];exact af rfl
    |iface=>simp only[mv];exact af rfl
    |_=>exact ae
   |iface tx vx=>cases y with
    |nilIface=>simp only[mv];exact af rfl
    |iface ty vy=>
     simp only[mv];by_cases h:tx≠ty
     ·rw[if_pos h,if_pos h];exact af rfl
     ·rw[if_neg h,if_neg h];refine SR.az (dU tx) fun i=>?_;cases i.comparable with
      |true=>exact ih _ _ _
      |false=>
       refine SR.az f_ fun pr=>SR.az f_ fun pr'=>?_;split
       ·exact dO (by simp)
       ·exact SR.az (IA tx) fun s=>b_ _ rfl
    |_=>exact ae
   |_=>first|exact ae|(cases y<;>exact ae)
  |struct fs=>cases x with
   |agg xs=>cases y with
    |agg ys=>
     simp only[mv];refine SR.az f_ fun pr=>?_;split
     ·exact dO (by simp)
     ·refine SR.az (Bt (fun f r=>?_) fs _) fun r=>?_
      ·split
       ·refine SR.kZ (jS f.type xs f.offset) fun u=>SR.kZ (jS f.type ys f.offset) fun v=>SR.az (ih _ _ _) fun b=>?_;split<;>exact af rfl
       ·exact af rfl
      ·split<;>exact af rfl
    |_=>exact ae
   |_=>first|exact ae|(cases y<;>exact ae)
  |array n e=>cases x with
   |agg xs=>cases y with
    |agg ys=>
     simp only[mv];refine SR.az (dm e) fun sz=>?_;refine SR.az (Bv (fun i r=>?_) n _) fun r=>?_
     ·refine SR.kZ (jS e xs _) fun u=>SR.kZ (jS e ys _) fun v=>SR.az (ih _ _ _) fun b=>?_;split<;>exact af rfl
     ·split<;>exact af rfl
    |_=>exact ae
   |_=>first|exact ae|(cases y<;>exact ae)
  |_=>first|exact ae|(cases x<;>first|exact ae|(cases y<;>exact ae))
theorem Fv (H:OkG P ρ) (t:TypeId) (x y:Value):SE P ρ (Op.equal t x y) (Op.equal t (mv ρ x) (mv ρ y)):=Iw H _ _ _ _
theorem uW:∀(d:Nat) (t:TypeId) (x y:Value),SE P ρ (Op.eqGuardIn d t x y) (Op.eqGuardIn d t (mv ρ x) (mv ρ y)):=by
 intro d;induction d with
 |zero=>intro t x y;exact aB (by simp)
 |succ d ih=>
  intro t x y;unfold Op.eqGuardIn;refine SR.az (aF t) fun dd=>?_;cases dd with
  |interface ms=>cases x with
   |nilIface=>cases y<;>simp only[mv]<;>exact af rfl
   |_=>first|(simp only[mv];exact af rfl)|(cases y<;>simp only[mv]<;>exact af rfl)
  |struct fs=>cases x with
   |agg xs=>cases y with
    |agg ys=>
     simp only[mv];refine SR.az (Bt (fun f r=>?_) fs _) fun r=>?_
     ·split
      ·refine SR.kZ (jS f.type xs f.offset) fun u=>SR.kZ (jS f.type ys f.offset) fun v=>SR.az (ih _ _ _) fun b=>?_;split<;>exact af rfl
      ·exact af rfl
     ·split<;>exact af rfl
    |_=>simp only[mv];exact af rfl
   |_=>first|(simp only[mv];exact af rfl)|(cases y<;>simp only[mv]<;>exact af rfl)
  |array n e=>cases x with
   |agg xs=>cases y with
    |agg ys=>
     simp only[mv];refine SR.az (dm e) fun sz=>?_;refine SR.az (Bv (fun i r=>?_) n _) fun r=>?_
     ·refine SR.kZ (jS e xs _) fun u=>SR.kZ (jS e ys _) fun v=>SR.az (ih _ _ _) fun b=>?_;split<;>exact af rfl
     ·split<;>exact af rfl
    |_=>simp only[mv];exact af rfl
   |_=>first|(simp only[mv];exact af rfl)|(cases y<;>simp only[mv]<;>exact af rfl)
  |_=>first|exact af rfl|(cases x<;>first|exact af rfl|(cases y<;>exact af rfl))
end Go.Ren
namespace Go.Ren
set_option linter.unusedSimpArgs false
set_option linter.unusedVariables false
variable {P:Program} {ρ:Nat→Nat}
theorem uY (H:OkG P ρ) (a b:Addr):SE P ρ (Op.twoPlaces a b) (Op.twoPlaces (bW ρ a) (bW ρ b)):=by
 unfold Op.twoPlaces;refine nR fun _=>?_;have hd:decide (ρ a.block≥P.globals.size)=decide (a.block≥P.globals.size):=decide_eq_decide.2 (by have:=H.Q5 a.block;omega);have hb:(ρ a.block != ρ b.block)=(a.block != b.block):=by simp only[bne,yG H.inj]
 rw[show(bW ρ a).block=ρ a.block from rfl,show(bW ρ b).block=ρ b.block from rfl,hb,hd];split
 ·exact dO (by simp)
 ·exact SR.az (ku a) fun x=>SR.az (ku b) fun y=>af rfl
theorem IW (H:OkG P ρ) (k:IntKind) (a b:Addr):SV P ρ (Op.addrSub k a b) (Op.addrSub k (bW ρ a) (bW ρ b)):=
 SR.az (uY H a b) fun x=>af (by simp[mv])
theorem qb (H:OkG P ρ) (op:BinOp) (a b:Addr):SV P ρ (Op.addrCmp op a b) (Op.addrCmp op (bW ρ a) (bW ρ b)):=by refine SR.az (uY H a b) fun x=>?_;cases op<;>first|exact af (by simp[mv])|exact aB (by simp)
theorem tV (k:IntKind) (a:Addr) (n:Int):SV P ρ (Op.addrMod k a n) (Op.addrMod k (bW ρ a) n):=by
 unfold Op.addrMod;refine SR.az (fT a.block) fun s=>?_;cases s with
 |none=>exact aB (by simp)
 |some x=>
  refine SR.az (dU x.1) fun i=>?_;dsimp only;split
  ·exact dO (by simp)
  ·exact SR.az (ku a) fun b=>af (by simp[mv])
theorem kK (ts:Array TypeId) (t:TypeId) (p:Option Addr) (y:Value):SV P ρ (Builtin.unsafeAdd_ ts t #[.pointer p,y]) (Builtin.unsafeAdd_ ts t #[.pointer (p.map (bW ρ)),mv ρ y]):=by
 unfold Builtin.unsafeAdd_;refine SR.az (rA y) fun n=>?_;dsimp only;by_cases h0:n=0
 ·rw[if_pos h0,if_pos h0];cases p with
  |none=>exact aB (by simp)
  |some a=>
   refine SR.bnd (rW a.block) fun x x' e=>?_;subst e;cases x with
   |none=>exact af (by simp[mv])
   |some x=>exact dO (by simp)
 ·rw[if_neg h0,if_neg h0];by_cases h1:n<0
  ·rw[if_pos h1,if_pos h1];exact dO (by simp)
  ·rw[if_neg h1,if_neg h1];cases p with
   |none=>exact aB (by simp)
   |some a=>
    refine SR.az (fT a.block) fun s=>?_;cases s with
    |none=>exact aB (by simp)
    |some x=>
     refine nR fun _=>?_;rw[show(bW ρ a).off=a.off from rfl];split
     ·exact af (by simp[mv,bW])
     ·exact aB (by simp)
theorem xD (a:Addr) (l:Bool):SV P ρ (asNumber a l) (asNumber (bW ρ a) l):=
 SR.bnd (o8 (.number a l) (by simp)) fun r r' e=>af (by rw[e];simp[mv,bW])
theorem rD (t:TypeId) (p:Option Addr) (y:Value):SV P ρ (movedNumber t (.pointer p) y) (movedNumber t (.pointer (p.map (bW ρ))) (mv ρ y)):=by
 unfold movedNumber;refine SR.az (aF t) fun d=>?_;cases p with
 |none=>have fin:SV P ρ (Builtin.unsafeAdd_ #[] t #[.pointer none,y]) (Builtin.unsafeAdd_ #[] t #[.pointer none,mv ρ y]):=kK #[] t none y;cases d<;>first|exact fin|exact dO (by simp)
 |some n=>
  have fin:SV P ρ (do
   let(a,lost) ←behindNumber n
   match ←Builtin.unsafeAdd_ #[] t #[.pointer (some a),y]with
   | .pointer (some b)=>asNumber b lost
   |v=>Pure.pure v) (do
   let(a,lost) ←behindNumber (bW ρ n)
   match ←Builtin.unsafeAdd_ #[] t #[.pointer (some a),mv ρ y]with
   | .pointer (some b)=>asNumber b lost
   |v=>Pure.pure v):=by
   refine SR.bnd (bz n) fun a a' e=>?_;subst e;refine SR.kZ (kK #[] t (some a.1) y) fun v=>?_;cases v<;>simp only[mv]<;>first|exact af (by simp[mv])|skip
   rename_i q;cases q with
   |none=>exact af (by simp[mv])
   |some q=>exact xD _ _
  cases d<;>first|exact fin|exact dO (by simp)
theorem xU (t:TypeId) (p:Option Addr) (y:Value):SV P ρ (movedPointer t (.pointer p) y) (movedPointer t (.pointer (p.map (bW ρ))) (mv ρ y)):=by
 unfold movedPointer;cases p with
 |none=>exact kK #[] t none y
 |some a=>
  refine SR.bnd (xB a.block) fun x x' e=>?_;subst e;cases x with
  |none=>exact kK #[] t (some a) y
  |some x=>exact dO (by simp)
theorem jf (op:BinOp) (k:FloatKind) (x y:Nat):SV P ρ (Op.floatArith op k x y) (Op.floatArith op k x y):=by
 unfold Op.floatArith;have fin:∀r:Option Nat,SV P ρ (match r with|some r=>Pure.pure (.float k r)|none=>do Pure.pure (.float k (←choose (.nanBits k x y)))) (match r with|some r=>Pure.pure (.float k r)|none=>do Pure.pure (.float k (←choose (.nanBits k x y)))):=by
  intro r;cases r with
  |none=>exact SR.az (eH _) fun n=>af (by simp[mv])
  |some r=>exact af (by simp[mv])
 cases op<;>first|exact fI|exact fin _
theorem xE (op:BinOp) (k:FloatKind) (x y:Nat):SV P ρ (Op.floatCmp op k x y) (Op.floatCmp op k x y):=by unfold Op.floatCmp;cases op<;>first|exact ae|exact af (by simp[mv])
theorem aZ (op:BinOp) (k:FloatKind) (x y:Nat):SE P ρ (Op.Complex.arith op k x y) (Op.Complex.arith op k x y):=by refine SR.kZ (jf op k x y) fun v=>?_;cases v<;>simp only[mv]<;>first|exact ae|exact af rfl
theorem tO (op:BinOp) (k:FloatKind) (x y:Nat):SE P ρ (Op.Complex.cmp op k x y) (Op.Complex.cmp op k x y):=
 SR.kZ (xE op k x y) fun v=>rU v
theorem jl (s:FloatKind) (b:Nat) (d:FloatKind):SV P ρ (Conv.floatToFloat s b d) (Conv.floatToFloat s b d):=by
 unfold Conv.floatToFloat;split
 ·exact af (by simp[mv])
 ·split
  ·exact SR.az (eH _) fun n=>af (by simp[mv])
  ·exact af (by simp[mv])
  ·dsimp only;split
   ·exact SR.az (eH _) fun n=>af (by simp[mv])
   ·exact af (by simp[mv])
theorem kH (s:FloatKind) (x:Nat) (d:FloatKind):SE P ρ (Op.Complex.conv s x d) (Op.Complex.conv s x d):=by
 unfold Op.Complex.conv;split
 ·exact af rfl
 ·refine SR.kZ (jl s x d) fun v=>?_;cases v<;>simp only[mv]<;>first|exact ae|exact af rfl
theorem Ak (s:FloatKind) (b:Nat) (d:IntKind):SV P ρ (Conv.floatToInt s b d) (Conv.floatToInt s b d):=by
 unfold Conv.floatToInt;dsimp only;split
 ·split
  ·exact af (by simp[mv])
  ·exact SR.az (eH _) fun n=>af (by simp[mv])
 ·exact SR.az (eH _) fun n=>af (by simp[mv])
theorem sD (s:FloatKind) (a b:Nat) (d:FloatKind):SV P ρ (Conv.complexToComplex s a b d) (Conv.complexToComplex s a b d):=by
 unfold Conv.complexToComplex;refine SR.kZ (jl s a d) fun v=>?_;cases v<;>simp only[mv]<;>first|exact ae|skip
 refine SR.kZ (jl s b d) fun v=>?_;cases v<;>simp only[mv]<;>first|exact ae|exact af (by simp[mv])
theorem Iy (a b c d:Nat):SE P ρ (Op.Complex.product a b c d) (Op.Complex.product a b c d):=by unfold Op.Complex.product Op.Complex.sub Op.Complex.mul Op.Complex.add;refine SR.az (aZ _ _ _ _) fun _=>SR.az (aZ _ _ _ _) fun _=>SR.az (aZ _ _ _ _) fun _=>SR.az (aZ _ _ _ _) fun _=>SR.az (aZ _ _ _ _) fun _=>SR.az (aZ _ _ _ _) fun _=>af rfl
theorem uV (s a b c d:Nat):SE P ρ (Op.Complex.corrected s a b c d) (Op.Complex.corrected s a b c d):=by unfold Op.Complex.corrected Op.Complex.sub Op.Complex.mul Op.Complex.add;refine SR.az (aZ _ _ _ _) fun _=>SR.az (aZ _ _ _ _) fun _=>SR.az (aZ _ _ _ _) fun _=>SR.az (aZ _ _ _ _) fun _=>SR.az (aZ _ _ _ _) fun _=>SR.az (aZ _ _ _ _) fun _=>SR.az (aZ _ _ _ _) fun _=>SR.az (aZ _ _ _ _) fun _=>af rfl
theorem FD (a b c d:Nat):SE P ρ (Op.Complex.quotient a b c d) (Op.Complex.quotient a b c d):=by
 have fin:∀e f:Nat,SE P ρ (do
  let zero:=(←Op.Complex.cmp .eql .f64 c 0)&&(←Op.Complex.cmp .eql .f64 d 0)
  if !(Op.Complex.isNaN e&&Op.Complex.isNaN f)then Pure.pure (e,f)
  else if zero&&(!Op.Complex.isNaN a|| !Op.Complex.isNaN b)then
   Pure.pure (←Op.Complex.mul (Op.Complex.copysign Op.Complex.inf c) a, ←Op.Complex.mul (Op.Complex.copysign Op.Complex.inf c) b)
  else if(Op.Complex.isInf a||Op.Complex.isInf b)&&Op.Complex.isFinite c&&Op.Complex.isFinite d then
   Op.Complex.corrected Op.Complex.inf (Op.Complex.inf2one a) (Op.Complex.inf2one b) c d
  else if(Op.Complex.isInf c||Op.Complex.isInf d)&&Op.Complex.isFinite a&&Op.Complex.isFinite b then
   Op.Complex.corrected 0 a b (Op.Complex.inf2one c) (Op.Complex.inf2one d)
  else Pure.pure (e,f)) (do
  let zero:=(←Op.Complex.cmp .eql .f64 c 0)&&(←Op.Complex.cmp .eql .f64 d 0)
  if !(Op.Complex.isNaN e&&Op.Complex.isNaN f)then Pure.pure (e,f)
  else if zero&&(!Op.Complex.isNaN a|| !Op.Complex.isNaN b)then
   Pure.pure (←Op.Complex.mul (Op.Complex.copysign Op.Complex.inf c) a, ←Op.Complex.mul (Op.Complex.copysign Op.Complex.inf c) b)
  else if(Op.Complex.isInf a||Op.Complex.isInf b)&&Op.Complex.isFinite c&&Op.Complex.isFinite d then
   Op.Complex.corrected Op.Complex.inf (Op.Complex.inf2one a) (Op.Complex.inf2one b) c d
  else if(Op.Complex.isInf c||Op.Complex.isInf d)&&Op.Complex.isFinite a&&Op.Complex.isFinite b then
   Op.Complex.corrected 0 a b (Op.Complex.inf2one c) (Op.Complex.inf2one d)
  else Pure.pure (e,f)):=by
  intro e f;refine SR.az (tO _ _ _ _) fun x=>SR.az (tO _ _ _ _) fun y=>?_;dsimp only;split
  ·exact af rfl
  ·split
   ·exact SR.az (aZ _ _ _ _) fun _=>SR.az (aZ _ _ _ _) fun _=>af rfl
   ·split
    ·exact uV _ _ _ _ _
    ·split
     ·exact uV _ _ _ _ _
     ·exact af rfl
 unfold Op.Complex.quotient;refine SR.az (tO _ _ _ _) fun x=>?_;cases x with
 |true=>exact SR.az (aZ _ _ _ _) fun _=>SR.az (aZ _ _ _ _) fun _=>SR.az (aZ _ _ _ _) fun _=>SR.az (aZ _ _ _ _) fun _=>SR.az (aZ _ _ _ _) fun _=>SR.az (aZ _ _ _ _) fun _=>SR.az (aZ _ _ _ _) fun _=>SR.az (aZ _ _ _ _) fun _=>SR.az (aZ _ _ _ _) fun _=>fin _ _
 |false=>exact SR.az (aZ _ _ _ _) fun _=>SR.az (aZ _ _ _ _) fun _=>SR.az (aZ _ _ _ _) fun _=>SR.az (aZ _ _ _ _) fun _=>SR.az (aZ _ _ _ _) fun _=>SR.az (aZ _ _ _ _) fun _=>SR.az (aZ _ _ _ _) fun _=>SR.az (aZ _ _ _ _) fun _=>SR.az (aZ _ _ _ _) fun _=>fin _ _
theorem Di (op:BinOp) (k:FloatKind) (a b c d:Nat):SV P ρ (Op.complexOp op k a b c d) (Op.complexOp op k a b c d):=by
 have fin:∀e f:Nat,SV P ρ (do Pure.pure (.complex k (←Op.Complex.conv .f64 e k) (←Op.Complex.conv .f64 f k))) (do Pure.pure (.complex k (←Op.Complex.conv .f64 e k) (←Op.Complex.conv .f64 f k))):=
  fun e f=>SR.az (kH _ _ _) fun _=>SR.az (kH _ _ _) fun _=>af (by simp[mv])
 unfold Op.complexOp;cases op with
 |add=>exact SR.az (aZ _ _ _ _) fun _=>SR.az (aZ _ _ _ _) fun _=>af (by simp[mv])
 |sub=>exact SR.az (aZ _ _ _ _) fun _=>SR.az (aZ _ _ _ _) fun _=>af (by simp[mv])
 |mul=>exact SR.az (kH _ _ _) fun _=>SR.az (kH _ _ _) fun _=>SR.az (kH _ _ _) fun _=>SR.az (kH _ _ _) fun _=>SR.az (Iy _ _ _ _) fun x=>fin _ _
 |quo=>exact SR.az (kH _ _ _) fun _=>SR.az (kH _ _ _) fun _=>SR.az (kH _ _ _) fun _=>SR.az (kH _ _ _) fun _=>SR.az (FD _ _ _ _) fun x=>fin _ _
 |eql=>exact SR.az (tO _ _ _ _) fun _=>SR.az (tO _ _ _ _) fun _=>af (by simp[mv])
 |neq=>exact SR.az (tO _ _ _ _) fun _=>SR.az (tO _ _ _ _) fun _=>af (by simp[mv])
 |_=>exact ae
end Go.Ren
namespace Go.Ren
set_option linter.unusedSimpArgs false
set_option linter.unusedVariables false
variable {P:Program} {ρ:Nat→Nat}
theorem IZ (H:OkG P ρ) (t:TypeId) (x y:Value):SV P ρ (do Pure.pure (.bool (←Op.equal t x y))) (do Pure.pure (.bool (←Op.equal t (mv ρ x) (mv ρ y)))):=
 SR.az (Fv H t x y) fun b=>af (by simp[mv])
theorem I6 (H:OkG P ρ) (t:TypeId) (x y:Value):SV P ρ (do Pure.pure (.bool (!(←Op.equal t x y)))) (do Pure.pure (.bool (!(←Op.equal t (mv ρ x) (mv ρ y))))):=
 SR.az (Fv H t x y) fun b=>af (by simp[mv])
theorem Mr (H:OkG P ρ) (op:BinOp) (t:TypeId) (k:IntKind) (a:Int) (y:Value):SV P ρ (binOp op t (.int k a) y) (binOp op t (.int k a) (mv ρ y)):=by
 have e1:=IZ H t (.int k a) y;have e2:=I6 H t (.int k a) y;rw[show mv ρ (.int k a)= .int k a by simp[mv]]at e1 e2;cases y with
 |int k' b=>
  rw[show mv ρ (.int k' b)= .int k' b by simp[mv]];have fin:∀s:Sem Value,SV P ρ s s→SV P ρ (if k≠k' then stuck "BinOp: operands of different kinds" else s) (if k≠k' then stuck "BinOp: operands of different kinds" else s):=by
   intro s hs;split
   ·exact ae
   ·exact hs
  cases op<;>first|exact FX .shl k a k' b|exact FX .shr k a k' b|exact fin _ (xG _ _ _ _)|exact fin _ (Mv _ _ _ _)|exact fin _ (zG _ _ _ _)|exact fin _ (Mt _ _ _)
 |pointer q=>
  simp only[mv]at e1 e2 ⊢;cases op with
  |eql=>exact e1
  |neq=>exact e2
  |add=>have:=rD (P:=P) (ρ:=ρ) t q (.int k a);rw[show mv ρ (.int k a)= .int k a by simp[mv]]at this;exact this
  |and=>
   cases q with
   |none=>exact aB (by simp)
   |some q=>exact SR.bnd (bz q) fun x x' e=>by rw[e];exact tV _ _ _
  |_=>exact aB (by simp)
 |_=>simp only[mv]at e1 e2 ⊢;cases op<;>first|exact e1|exact e2|exact ae
theorem Ms (H:OkG P ρ) (op:BinOp) (t:TypeId) (p:Option Addr) (y:Value):SV P ρ (binOp op t (.pointer p) y) (binOp op t (.pointer (p.map (bW ρ))) (mv ρ y)):=by
 have e1:=IZ H t (.pointer p) y;have e2:=I6 H t (.pointer p) y;have e3:=rD (P:=P) (ρ:=ρ) t p;have e4:=xU (P:=P) (ρ:=ρ) t p;rw[show mv ρ (.pointer p)= .pointer (p.map (bW ρ)) by simp[mv]]at e1 e2;cases y with
 |int k b=>
  have m:∀n,mv ρ (.int k n)= .int k n:=fun n=>by simp[mv]
  rw[m]at e1 e2 ⊢;cases op with
  |eql=>exact e1
  |neq=>exact e2
  |add=>have e3:=e3 (.int k b);have e4:=e4 (.int k b);rw[m]at e3 e4;refine SR.az (aF t) fun d=>?_;cases d<;>first|exact e4|exact e3
  |sub=>have e3:=e3 (.int k (-b));rw[m]at e3;exact e3
  |rem=>
   cases p with
   |none=>exact aB (by simp)
   |some p=>exact SR.bnd (bz p) fun x x' e=>by rw[e];exact tV _ _ _
  |and=>
   cases p with
   |none=>exact aB (by simp)
   |some p=>exact SR.bnd (bz p) fun x x' e=>by rw[e];exact tV _ _ _
  |_=>cases p<;>exact aB (by simp)
 |pointer q=>
  rw[show mv ρ (.pointer q)= .pointer (q.map (bW ρ)) by simp[mv]]at e1 e2 ⊢;cases op with
  |eql=>exact e1
  |neq=>exact e2
  |sub=>
   cases p with
   |none=>cases q<;>exact aB (by simp)
   |some p=>cases q with
    |none=>exact aB (by simp)
    |some q=>exact SR.bnd (bz p) fun x x' e=>SR.bnd (bz q) fun z z' e'=>by rw[e,e'];exact IW H _ _ _
  |lss=>
   cases p with
   |none=>cases q<;>exact aB (by simp)
   |some p=>cases q with
    |none=>exact aB (by simp)
    |some q=>exact SR.bnd (bz p) fun x x' e=>SR.bnd (bz q) fun z z' e'=>by rw[e,e'];exact qb H _ _ _
  |leq=>
   cases p with
   |none=>cases q<;>exact aB (by simp)
   |some p=>cases q with
    |none=>exact aB (by simp)
    |some q=>exact SR.bnd (bz p) fun x x' e=>SR.bnd (bz q) fun z z' e'=>by rw[e,e'];exact qb H _ _ _
  |gtr=>
   cases p with
   |none=>cases q<;>exact aB (by simp)
   |some p=>cases q with
    |none=>exact aB (by simp)
    |some q=>exact SR.bnd (bz p) fun x x' e=>SR.bnd (bz q) fun z z' e'=>by rw[e,e'];exact qb H _ _ _
  |geq=>
   cases p with
   |none=>cases q<;>exact aB (by simp)
   |some p=>cases q with
    |none=>exact aB (by simp)
    |some q=>exact SR.bnd (bz p) fun x x' e=>SR.bnd (bz q) fun z z' e'=>by rw[e,e'];exact qb H _ _ _
  |_=>cases p<;>cases q<;>exact aB (by simp)
 |_=>simp only[mv]at e1 e2 ⊢;cases op<;>first|exact e1|exact e2|(cases p<;>exact aB (by simp))
theorem PO (H:OkG P ρ) (op:BinOp) (t:TypeId) (x y:Value):SV P ρ (binOp op t x y) (binOp op t (mv ρ x) (mv ρ y)):=by
 have e1:=IZ H t x y;have e2:=I6 H t x y;cases x with
 |int k a=>rw[show mv ρ (.int k a)= .int k a by simp[mv]];exact Mr H op t k a y
 |pointer p=>rw[show mv ρ (.pointer p)= .pointer (p.map (bW ρ)) by simp[mv]];exact Ms H op t p y
 |float k a=>
  cases y with
  |float k' b=>
   simp only[mv];have fin:∀s:Sem Value,SV P ρ s s→SV P ρ (if k≠k' then stuck "BinOp: operands of different kinds" else s) (if k≠k' then stuck "BinOp: operands of different kinds" else s):=by
    intro s hs;split
    ·exact ae
    ·exact hs
   cases op<;>first|exact fin _ (jf .add k a b)|exact fin _ (jf .sub k a b)|exact fin _ (jf .mul k a b)|exact fin _ (jf .quo k a b)|exact fin _ (xE _ k a b)
  |pointer q=>simp only[mv]at e1 e2 ⊢;cases op<;>first|exact e1|exact e2|exact aB (by simp)
  |_=>simp only[mv]at e1 e2 ⊢;cases op<;>first|exact e1|exact e2|exact ae
 |complex k a b=>
  cases y with
  |complex k' c d=>
   simp only[mv];have fin:SV P ρ (if k≠k' then stuck "BinOp: operands of different kinds" else Op.complexOp op k a b c d) (if k≠k' then stuck "BinOp: operands of different kinds" else Op.complexOp op k a b c d):=by
    split
    ·exact ae
    ·exact Di _ _ _ _ _ _
   cases op<;>exact fin
  |pointer q=>simp only[mv]at e1 e2 ⊢;cases op<;>first|exact e1|exact e2|exact aB (by simp)
  |_=>simp only[mv]at e1 e2 ⊢;cases op<;>first|exact e1|exact e2|exact ae
 |string s=>
  cases y with
  |string s'=>simp only[mv];have fin:=rE (P:=P) (ρ:=ρ) op s s';cases op<;>exact fin
  |pointer q=>simp only[mv]at e1 e2 ⊢;cases op<;>first|exact e1|exact e2|exact aB (by simp)
  |_=>simp only[mv]at e1 e2 ⊢;cases op<;>first|exact e1|exact e2|exact ae
 |_=>
  cases y with
  |pointer q=>simp only[mv]at e1 e2 ⊢;cases op<;>first|exact e1|exact e2|exact aB (by simp)
  |_=>simp only[mv]at e1 e2 ⊢;cases op<;>first|exact e1|exact e2|exact ae
end Go.Ren
namespace Go.Ren
set_option linter.unusedSimpArgs false
set_option linter.unusedVariables false
variable {P:Program} {ρ:Nat→Nat}
theorem Mc {β:Type} {f f':Value→β→Sem (ForInStep β)} (h:∀a b,SE P ρ (f a b) (f' (mv ρ a) b)):∀(l:List Value) (b:β),SE P ρ (forIn l b f) (forIn (l.map (mv ρ)) b f'):=by
 intro l;induction l with
 |nil=>intro b;exact af rfl
 |cons x l ih=>
  intro b;rw[List.map_cons,List.forIn_cons,List.forIn_cons];refine SR.az (h x b) fun s=>?_;cases s with
  |done b=>exact af rfl
  |yield b=>exact ih b
theorem zA {β:Type} {f f':Value→β→Sem (ForInStep β)} (h:∀a b,SE P ρ (f a b) (f' (mv ρ a) b)) (l:Array Value) (b:β):SE P ρ (forIn l b f) (forIn (l.map (mv ρ)) b f'):=by rw[←Array.forIn_toList, ←Array.forIn_toList,Array.toList_map];exact Mc h _ _
theorem wG (x:Value):SV P ρ (Conv.bytesToString x) (Conv.bytesToString (mv ρ x)):=by
 unfold Conv.bytesToString;cases x<;>simp only[mv]<;>first|exact ae|skip
 rename_i a len c;cases a with
 |none=>exact af (by simp[mv])
 |some a=>
  refine SR.bnd (lY a len) fun l l' e=>?_;subst e;refine SR.az (zA (fun v s=>?_) l _) fun s=>af (by simp[mv]);cases v<;>simp only[mv]<;>first|exact fI|exact ae|skip
  rename_i k n;cases k<;>first|exact fI|exact ae|exact af rfl
theorem wI (x:Value):SV P ρ (Conv.runesToString x) (Conv.runesToString (mv ρ x)):=by
 unfold Conv.runesToString;cases x<;>simp only[mv]<;>first|exact ae|skip
 rename_i a len c;cases a with
 |none=>exact af (by simp[mv])
 |some a=>
  refine SR.bnd (lY a len) fun l l' e=>?_;subst e;refine SR.az (zA (fun v s=>?_) l _) fun s=>af (by simp[mv]);cases v<;>simp only[mv]<;>first|exact fI|exact ae|skip
  rename_i k n;cases k<;>first|exact fI|exact ae|exact af rfl
theorem wJ (e:TypeId) (s:ByteArray):SV P ρ (Conv.stringToBytes e s) (Conv.stringToBytes e s):=by
 unfold Conv.stringToBytes;refine SR.az (eH _) fun cap=>?_;have:=mq (P:=P) (ρ:=ρ) e ((s.data.map fun b=>Value.int .u8 b.toNat)++Array.replicate (cap-s.size) (.int .u8 0));have hm:Array.map (mv ρ) ((s.data.map fun b=>Value.int .u8 b.toNat)++Array.replicate (cap-s.size) (.int .u8 0))=(s.data.map fun b=>Value.int .u8 b.toNat)++Array.replicate (cap-s.size) (.int .u8 0):=by simp[mv,Function.comp_def]
 rw[hm]at this;refine SR.bnd this fun a a' ea=>?_;subst ea;exact SR.az (oW a) fun _=>af (by simp[mv])
theorem CV (s:ByteArray):∀(b i:Nat) (acc:Array Value),(Conv.runesFrom s b i acc).map (mv ρ)=Conv.runesFrom s b i (acc.map (mv ρ)):=by
 intro b;induction b with
 |zero=>intro i acc;rfl
 |succ b ih=>
  intro i acc;simp only[Conv.runesFrom];split
  ·rw[ih];simp[mv]
  ·rfl
theorem wK (e:TypeId) (s:ByteArray):SV P ρ (Conv.stringToRunes e s) (Conv.stringToRunes e s):=by
 unfold Conv.stringToRunes;have h:(Conv.runesFrom s s.size 0 #[]).map (mv ρ)=Conv.runesFrom s s.size 0 #[]:=by rw[CV];simp
 refine SR.az (eH _) fun cap=>?_;have:=mq (P:=P) (ρ:=ρ) e (Conv.runesFrom s s.size 0 #[]++Array.replicate (cap-(Conv.runesFrom s s.size 0 #[]).size) (.int .i32 0));rw[Array.map_append,h,show(Array.replicate (cap-(Conv.runesFrom s s.size 0 #[]).size) (Value.int .i32 0)).map (mv ρ)=Array.replicate (cap-(Conv.runesFrom s s.size 0 #[]).size) (.int .i32 0) by simp[mv]]at this;exact SR.bnd this fun a a' ea=>af (by rw[ea];simp[mv])
theorem BI (a:Addr):SR P ρ (fun x y=>y=bW ρ x) (Conv.seenAt a) (Conv.seenAt (bW ρ a)):=by
 unfold Conv.seenAt;refine SR.bnd (rW a.block) fun x x' e=>?_;subst e;cases x with
 |none=>exact af rfl
 |some x=>
  obtain⟨seen,u⟩:=x;rw[show(bW ρ a).off=a.off from rfl,show(bW ρ a).spot=a.spot from rfl];dsimp only[Option.map_some];rw[show(bW ρ seen).spot=seen.spot from rfl,show(bW ρ seen).off=seen.off from rfl,show(bW ρ seen).block=ρ seen.block from rfl];split
  ·exact af rfl
  ·split
   ·exact dO (by simp)
   ·refine nR fun _=>?_;split
    ·refine SR.az (fT seen.block) fun s=>?_;cases s with
     |none=>exact aB (by simp)
     |some y=>
      dsimp only;split
      ·exact dO (by simp)
      ·split
       ·exact af rfl
       ·exact aB (by simp)
    ·exact aB (by simp)
theorem Aj (s d:TypeId) (x:Value):SV P ρ (Conv.unsafePointer s d x) (Conv.unsafePointer s d (mv ρ x)):=by
 unfold Conv.unsafePointer;refine SR.az (aF s) fun u=>SR.az (aF d) fun v=>?_;cases x with
 |pointer p=>
  simp only[mv];cases u with
  |pointer t=>
   cases v with
   |unsafePointer=>
    cases p with
    |none=>exact af (by simp[mv])
    |some a=>
     refine SR.bnd (BI a) fun b b' e=>?_;subst e;refine SR.az (Ir b.block) fun c=>SR.az (dm t) fun n=>?_;rw[show(bW ρ b).off=b.off from rfl,show(bW ρ b).spot=b.spot from rfl];have fin:∀q:Bool,SV P ρ (if q=true then do Pure.pure (.pointer (some ⟨←newObj (.view b t),0,none⟩))else Pure.pure (.pointer (some b))) (if q=true then do Pure.pure (.pointer (some ⟨←newObj (.view (bW ρ b) t),0,none⟩))else Pure.pure (.pointer (some (bW ρ b)))):=by
      intro q;cases q with
      |true=>exact SR.bnd (o8 (.view b t) (by simp)) fun r r' e=>af (by rw[e];simp[mv,bW])
      |false=>exact af (by simp[mv])
     split<;>exact fin _
   |_=>cases p<;>exact ae
  |unsafePointer=>
   cases v with
   |pointer t=>
    cases p with
    |none=>exact af (by simp[mv])
    |some a=>
     refine SR.bnd (BI a) fun b b' e=>?_;subst e;refine SR.az (dm t) fun n=>SR.az (rC b t 1) fun w=>?_;split
     ·exact af (by simp[mv])
     ·refine SR.az (fT b.block) fun sh=>?_;have fin:SV P ρ (do Pure.pure (.pointer (some ⟨←newObj (.view b t),0,none⟩))) (do Pure.pure (.pointer (some ⟨←newObj (.view (bW ρ b) t),0,none⟩))):=
       SR.bnd (o8 (.view b t) (by simp)) fun r r' e=>af (by rw[e];simp[mv,bW])
      cases sh with
      |none=>exact dO (by simp)
      |some y=>
       refine SR.az f_ fun pr=>SR.az f_ fun pr'=>?_;split
       ·exact dO (by simp)
       ·exact fin
   |unsafePointer=>cases p<;>exact af (by simp[mv])
   |int k=>cases p with
    |none=>exact af (by simp[mv])
    |some a=>exact xD _ _
   |_=>cases p<;>exact ae
  |int k=>
   cases v with
   |unsafePointer=>cases p<;>first|exact aB (by simp)|exact ae
   |_=>cases p<;>exact ae
  |_=>cases v<;>cases p<;>exact ae
 |int k n=>
  cases u with
  |int k'=>cases v with
   |unsafePointer=>rcases n with(_|n)|n<;>exact aB (by simp)
   |_=>exact ae
  |_=>first|exact ae|(cases v<;>exact ae)
 |_=>cases u<;>first|exact ae|(cases v<;>exact ae)
theorem IY (s d:TypeId) (x:Value):SV P ρ (convert s d x) (convert s d (mv ρ x)):=by
 unfold convert;refine SR.az (aF s) fun u=>SR.az (aF d) fun v=>?_;have vG:=Aj (P:=P) (ρ:=ρ) s d x;have other:∀y:Sem Value,SV P ρ (unsupported (.noEntry "convert/other")) y:=fun y=>aB (by simp);cases x with
 |int k n=>
  simp only[mv]at vG ⊢;cases v with
  |int k'=>cases u<;>exact af (by simp[mv])
  |float k'=>cases u<;>exact af (by simp[mv])
  |string=>cases u<;>exact af (by simp[mv])
  |unsafePointer=>cases u<;>exact vG
  |_=>cases u<;>first|exact vG|exact other _
 |float k n=>
  simp only[mv]at vG ⊢;cases v with
  |int k'=>cases u<;>exact Ak _ _ _
  |float k'=>cases u<;>exact jl _ _ _
  |unsafePointer=>cases u<;>exact vG
  |string=>
   cases u<;>first|exact vG|exact other _|skip
   rename_i e;refine SR.az (aF e) fun w=>?_;cases w<;>first|exact ae|skip
   rename_i kk;cases kk<;>exact ae
  |_=>cases u<;>first|exact vG|exact other _
 |complex k a b=>
  simp only[mv]at vG ⊢;cases v with
  |complex k'=>cases u<;>exact sD _ _ _ _
  |unsafePointer=>cases u<;>exact vG
  |string=>
   cases u<;>first|exact vG|exact other _|skip
   rename_i e;refine SR.az (aF e) fun w=>?_;cases w<;>first|exact ae|skip
   rename_i kk;cases kk<;>exact ae
  |_=>cases u<;>first|exact vG|exact other _
 |string t=>
  simp only[mv]at vG ⊢;cases v with
  |string=>cases u<;>exact af (by simp[mv])
  |slice e=>
   have fin:SV P ρ (do match ←underlying e with
    | .int .u8=>Conv.stringToBytes e t
    | .int .i32=>Conv.stringToRunes e t
    |_=>stuck "Convert: string to a slice of what?") (do match ←underlying e with
    | .int .u8=>Conv.stringToBytes e t
    | .int .i32=>Conv.stringToRunes e t
    |_=>stuck "Convert: string to a slice of what?"):=by
    refine SR.az (aF e) fun w=>?_;cases w<;>first|exact ae|skip
    rename_i kk;cases kk<;>first|exact ae|exact wJ _ _|exact wK _ _
   cases u<;>exact fin
  |unsafePointer=>cases u<;>exact vG
  |_=>cases u<;>first|exact vG|exact other _
 |slice a len cap=>
  simp only[mv]at vG ⊢;have b1:=wG (P:=P) (ρ:=ρ) (.slice a len cap);have b2:=wI (P:=P) (ρ:=ρ) (.slice a len cap);simp only[mv]at b1 b2;cases v with
  |string=>
   cases u<;>first|exact vG|exact other _|skip
   rename_i e;refine SR.az (aF e) fun w=>?_;cases w<;>first|exact ae|skip
   rename_i kk;cases kk<;>first|exact ae|exact b1|exact b2
  |unsafePointer=>cases u<;>exact vG
  |slice e=>
   cases a with
   |none=>cases u<;>first|exact vG|exact other _
   |some a=>
    cases u<;>first|exact vG|exact other _|skip
    refine SR.az (aF e) fun w=>?_;cases (s==d)with
    |false=>exact other _
    |true=>
     cases w<;>first|exact other _|skip
     rename_i kk;cases kk<;>first|exact other _|exact SR.az (oW a) fun _=>af (by simp[mv])
  |_=>cases u<;>first|exact vG|exact other _
 |pointer p=>
  simp only[mv]at vG ⊢;have ao:∀y:Sem Value,SV P ρ (unsupported .addressObserved) y:=fun y=>aB (by simp);cases v with
  |string=>
   cases u<;>first|exact vG|exact other _|(cases p<;>first|exact ao _|exact other _)|skip
   rename_i e;refine SR.az (aF e) fun w=>?_;cases w<;>first|exact ae|skip
   rename_i kk;cases kk<;>exact ae
  |unsafePointer=>cases u<;>exact vG
  |_=>cases u<;>first|exact vG|exact other _|(cases p<;>first|exact ao _|exact other _)
 |_=>
  simp only[mv]at vG ⊢;cases v with
  |string=>
   cases u<;>first|exact vG|exact other _|skip
   rename_i e;refine SR.az (aF e) fun w=>?_;cases w<;>first|exact ae|skip
   rename_i kk;cases kk<;>exact ae
  |unsafePointer=>cases u<;>exact vG
  |_=>cases u<;>first|exact vG|exact other _
end Go.Ren
