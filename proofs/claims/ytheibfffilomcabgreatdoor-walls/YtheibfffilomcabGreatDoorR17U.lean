import Derived.Test.YtheibfffilomcabGreatDoorR11U
set_option linter.all false
set_option maxHeartbeats 4000000
namespace Go.Ren
set_option linter.unusedSimpArgs false
set_option linter.unusedVariables false
variable {P:Program} {ρ:Nat→Nat}
theorem uY (H:OkG P ρ) (a b:Addr):SE P ρ (Op.twoPlaces a b) (Op.twoPlaces (bW ρ a) (bW ρ b)):=by
 unfold Op.twoPlaces;refine nR fun _=>?_;have hd:decide (ρ a.block≥P.globals.size)=decide (a.block≥P.globals.size):=decide_eq_decide.2 (by have:=H.Q5 a.block;omega);have hb:(ρ a.block != ρ b.block)=(a.block != b.block):=by simp only[bne,yG H.inj]
 rw[show(bW ρ a).block=ρ a.block from rfl,show(bW ρ b).block=ρ b.block from rfl,hb,hd];split
 ·exact dO (by simp)
 ·exact SR.az (ku a) fun x=>SR.az (ku b) fun y=>af rfl
theorem IW (H:OkG P ρ) (k:IntKind) (a b:Addr):SV P ρ (Op.addrSub k a b) (Op.addrSub k (bW ρ a) (bW ρ b)):=
 SR.az (uY H a b) fun x=>af (by simp[mv])
theorem qb (H:OkG P ρ) (op:BinOp) (a b:Addr):SV P ρ (Op.addrCmp op a b) (Op.addrCmp op (bW ρ a) (bW ρ b)):=by refine SR.az (uY H a b) fun x=>?_;cases op<;>first|exact af (by simp[mv])|exact aB (by simp)
theorem tV (k:IntKind) (a:Addr) (n:Int):SV P ρ (Op.addrMod k a n) (Op.addrMod k (bW ρ a) n):=by
 unfold Op.addrMod;refine SR.az (fT a.block) fun s=>?_;cases s with
 |none=>exact aB (by simp)
 |some x=>
  refine SR.az (dU x.1) fun i=>?_;dsimp only;split
  ·exact dO (by simp)
  ·exact SR.az (ku a) fun b=>af (by simp[mv])
theorem kK (ts:Array TypeId) (t:TypeId) (p:Option Addr) (y:Value):SV P ρ (Builtin.unsafeAdd_ ts t #[.pointer p,y]) (Builtin.unsafeAdd_ ts t #[.pointer (p.map (bW ρ)),mv ρ y]):=by
 unfold Builtin.unsafeAdd_;refine SR.az (rA y) fun n=>?_;dsimp only;by_cases h0:n=0
 ·rw[if_pos h0,if_pos h0];cases p with
  |none=>exact aB (by simp)
  |some a=>
   refine SR.bnd (rW a.block) fun x x' e=>?_;subst e;cases x with
   |none=>exact af (by simp[mv])
   |some x=>exact dO (by simp)
 ·rw[if_neg h0,if_neg h0];by_cases h1:n<0
  ·rw[if_pos h1,if_pos h1];exact dO (by simp)
  ·rw[if_neg h1,if_neg h1];cases p with
   |none=>exact aB (by simp)
   |some a=>
    refine SR.az (fT a.block) fun s=>?_;cases s with
    |none=>exact aB (by simp)
    |some x=>
     refine nR fun _=>?_;rw[show(bW ρ a).off=a.off from rfl];split
     ·exact af (by simp[mv,bW])
     ·exact aB (by simp)
theorem xD (a:Addr) (l:Bool):SV P ρ (asNumber a l) (asNumber (bW ρ a) l):=
 SR.bnd (o8 (.number a l) (by simp)) fun r r' e=>af (by rw[e];simp[mv,bW])
theorem rD (t:TypeId) (p:Option Addr) (y:Value):SV P ρ (movedNumber t (.pointer p) y) (movedNumber t (.pointer (p.map (bW ρ))) (mv ρ y)):=by
 unfold movedNumber;refine SR.az (aF t) fun d=>?_;cases p with
 |none=>have fin:SV P ρ (Builtin.unsafeAdd_ #[] t #[.pointer none,y]) (Builtin.unsafeAdd_ #[] t #[.pointer none,mv ρ y]):=kK #[] t none y;cases d<;>first|exact fin|exact dO (by simp)
 |some n=>
  have fin:SV P ρ (do
   let(a,lost) ←behindNumber n
   match ←Builtin.unsafeAdd_ #[] t #[.pointer (some a),y]with
   | .pointer (some b)=>asNumber b lost
   |v=>Pure.pure v) (do
   let(a,lost) ←behindNumber (bW ρ n)
   match ←Builtin.unsafeAdd_ #[] t #[.pointer (some a),mv ρ y]with
   | .pointer (some b)=>asNumber b lost
   |v=>Pure.pure v):=by
   refine SR.bnd (bz n) fun a a' e=>?_;subst e;refine SR.kZ (kK #[] t (some a.1) y) fun v=>?_;cases v<;>simp only[mv]<;>first|exact af (by simp[mv])|skip
   rename_i q;cases q with
   |none=>exact af (by simp[mv])
   |some q=>exact xD _ _
  cases d<;>first|exact fin|exact dO (by simp)
theorem xU (t:TypeId) (p:Option Addr) (y:Value):SV P ρ (movedPointer t (.pointer p) y) (movedPointer t (.pointer (p.map (bW ρ))) (mv ρ y)):=by
 unfold movedPointer;cases p with
 |none=>exact kK #[] t none y
 |some a=>
  refine SR.bnd (xB a.block) fun x x' e=>?_;subst e;cases x with
  |none=>exact kK #[] t (some a) y
  |some x=>exact dO (by simp)
theorem jf (op:BinOp) (k:FloatKind) (x y:Nat):SV P ρ (Op.floatArith op k x y) (Op.floatArith op k x y):=by
 unfold Op.floatArith;have fin:∀r:Option Nat,SV P ρ (match r with|some r=>Pure.pure (.float k r)|none=>do Pure.pure (.float k (←choose (.nanBits k x y)))) (match r with|some r=>Pure.pure (.float k r)|none=>do Pure.pure (.float k (←choose (.nanBits k x y)))):=by
  intro r;cases r with
  |none=>exact SR.az (eH _) fun n=>af (by simp[mv])
  |some r=>exact af (by simp[mv])
 cases op<;>first|exact fI|exact fin _
theorem xE (op:BinOp) (k:FloatKind) (x y:Nat):SV P ρ (Op.floatCmp op k x y) (Op.floatCmp op k x y):=by unfold Op.floatCmp;cases op<;>first|exact ae|exact af (by simp[mv])
theorem aZ (op:BinOp) (k:FloatKind) (x y:Nat):SE P ρ (Op.Complex.arith op k x y) (Op.Complex.arith op k x y):=by refine SR.kZ (jf op k x y) fun v=>?_;cases v<;>simp only[mv]<;>first|exact ae|exact af rfl
theorem tO (op:BinOp) (k:FloatKind) (x y:Nat):SE P ρ (Op.Complex.cmp op k x y) (Op.Complex.cmp op k x y):=
 SR.kZ (xE op k x y) fun v=>rU v
theorem jl (s:FloatKind) (b:Nat) (d:FloatKind):SV P ρ (Conv.floatToFloat s b d) (Conv.floatToFloat s b d):=by
 unfold Conv.floatToFloat;split
 ·exact af (by simp[mv])
 ·split
  ·exact SR.az (eH _) fun n=>af (by simp[mv])
  ·exact af (by simp[mv])
  ·dsimp only;split
   ·exact SR.az (eH _) fun n=>af (by simp[mv])
   ·exact af (by simp[mv])
theorem kH (s:FloatKind) (x:Nat) (d:FloatKind):SE P ρ (Op.Complex.conv s x d) (Op.Complex.conv s x d):=by
 unfold Op.Complex.conv;split
 ·exact af rfl
 ·refine SR.kZ (jl s x d) fun v=>?_;cases v<;>simp only[mv]<;>first|exact ae|exact af rfl
theorem Ak (s:FloatKind) (b:Nat) (d:IntKind):SV P ρ (Conv.floatToInt s b d) (Conv.floatToInt s b d):=by
 unfold Conv.floatToInt;dsimp only;split
 ·split
  ·exact af (by simp[mv])
  ·exact SR.az (eH _) fun n=>af (by simp[mv])
 ·exact SR.az (eH _) fun n=>af (by simp[mv])
theorem sD (s:FloatKind) (a b:Nat) (d:FloatKind):SV P ρ (Conv.complexToComplex s a b d) (Conv.complexToComplex s a b d):=by
 unfold Conv.complexToComplex;refine SR.kZ (jl s a d) fun v=>?_;cases v<;>simp only[mv]<;>first|exact ae|skip
 refine SR.kZ (jl s b d) fun v=>?_;cases v<;>simp only[mv]<;>first|exact ae|exact af (by simp[mv])
theorem Iy (a b c d:Nat):SE P ρ (Op.Complex.product a b c d) (Op.Complex.product a b c d):=by unfold Op.Complex.product Op.Complex.sub Op.Complex.mul Op.Complex.add;refine SR.az (aZ _ _ _ _) fun _=>SR.az (aZ _ _ _ _) fun _=>SR.az (aZ _ _ _ _) fun _=>SR.az (aZ _ _ _ _) fun _=>SR.az (aZ _ _ _ _) fun _=>SR.az (aZ _ _ _ _) fun _=>af rfl
theorem uV (s a b c d:Nat):SE P ρ (Op.Complex.corrected s a b c d) (Op.Complex.corrected s a b c d):=by unfold Op.Complex.corrected Op.Complex.sub Op.Complex.mul Op.Complex.add;refine SR.az (aZ _ _ _ _) fun _=>SR.az (aZ _ _ _ _) fun _=>SR.az (aZ _ _ _ _) fun _=>SR.az (aZ _ _ _ _) fun _=>SR.az (aZ _ _ _ _) fun _=>SR.az (aZ _ _ _ _) fun _=>SR.az (aZ _ _ _ _) fun _=>SR.az (aZ _ _ _ _) fun _=>af rfl
theorem FD (a b c d:Nat):SE P ρ (Op.Complex.quotient a b c d) (Op.Complex.quotient a b c d):=by
 have fin:∀e f:Nat,SE P ρ (do
  let zero:=(←Op.Complex.cmp .eql .f64 c 0)&&(←Op.Complex.cmp .eql .f64 d 0)
  if !(Op.Complex.isNaN e&&Op.Complex.isNaN f)then Pure.pure (e,f)
  else if zero&&(!Op.Complex.isNaN a|| !Op.Complex.isNaN b)then
   Pure.pure (←Op.Complex.mul (Op.Complex.copysign Op.Complex.inf c) a, ←Op.Complex.mul (Op.Complex.copysign Op.Complex.inf c) b)
  else if(Op.Complex.isInf a||Op.Complex.isInf b)&&Op.Complex.isFinite c&&Op.Complex.isFinite d then
   Op.Complex.corrected Op.Complex.inf (Op.Complex.inf2one a) (Op.Complex.inf2one b) c d
  else if(Op.Complex.isInf c||Op.Complex.isInf d)&&Op.Complex.isFinite a&&Op.Complex.isFinite b then
   Op.Complex.corrected 0 a b (Op.Complex.inf2one c) (Op.Complex.inf2one d)
  else Pure.pure (e,f)) (do
  let zero:=(←Op.Complex.cmp .eql .f64 c 0)&&(←Op.Complex.cmp .eql .f64 d 0)
  if !(Op.Complex.isNaN e&&Op.Complex.isNaN f)then Pure.pure (e,f)
  else if zero&&(!Op.Complex.isNaN a|| !Op.Complex.isNaN b)then
   Pure.pure (←Op.Complex.mul (Op.Complex.copysign Op.Complex.inf c) a, ←Op.Complex.mul (Op.Complex.copysign Op.Complex.inf c) b)
  else if(Op.Complex.isInf a||Op.Complex.isInf b)&&Op.Complex.isFinite c&&Op.Complex.isFinite d then
   Op.Complex.corrected Op.Complex.inf (Op.Complex.inf2one a) (Op.Complex.inf2one b) c d
  else if(Op.Complex.isInf c||Op.Complex.isInf d)&&Op.Complex.isFinite a&&Op.Complex.isFinite b then
   Op.Complex.corrected 0 a b (Op.Complex.inf2one c) (Op.Complex.inf2one d)
  else Pure.pure (e,f)):=by
  intro e f;refine SR.az (tO _ _ _ _) fun x=>SR.az (tO _ _ _ _) fun y=>?_;dsimp only;split
  ·exact af rfl
  ·split
   ·exact SR.az (aZ _ _ _ _) fun _=>SR.az (aZ _ _ _ _) fun _=>af rfl
   ·split
    ·exact uV _ _ _ _ _
    ·split
     ·exact uV _ _ _ _ _
     ·exact af rfl
 unfold Op.Complex.quotient;refine SR.az (tO _ _ _ _) fun x=>?_;cases x with
 |true=>exact SR.az (aZ _ _ _ _) fun _=>SR.az (aZ _ _ _ _) fun _=>SR.az (aZ _ _ _ _) fun _=>SR.az (aZ _ _ _ _) fun _=>SR.az (aZ _ _ _ _) fun _=>SR.az (aZ _ _ _ _) fun _=>SR.az (aZ _ _ _ _) fun _=>SR.az (aZ _ _ _ _) fun _=>SR.az (aZ _ _ _ _) fun _=>fin _ _
 |false=>exact SR.az (aZ _ _ _ _) fun _=>SR.az (aZ _ _ _ _) fun _=>SR.az (aZ _ _ _ _) fun _=>SR.az (aZ _ _ _ _) fun _=>SR.az (aZ _ _ _ _) fun _=>SR.az (aZ _ _ _ _) fun _=>SR.az (aZ _ _ _ _) fun _=>SR.az (aZ _ _ _ _) fun _=>SR.az (aZ _ _ _ _) fun _=>fin _ _
theorem Di (op:BinOp) (k:FloatKind) (a b c d:Nat):SV P ρ (Op.complexOp op k a b c d) (Op.complexOp op k a b c d):=by
 have fin:∀e f:Nat,SV P ρ (do Pure.pure (.complex k (←Op.Complex.conv .f64 e k) (←Op.Complex.conv .f64 f k))) (do Pure.pure (.complex k (←Op.Complex.conv .f64 e k) (←Op.Complex.conv .f64 f k))):=
  fun e f=>SR.az (kH _ _ _) fun _=>SR.az (kH _ _ _) fun _=>af (by simp[mv])
 unfold Op.complexOp;cases op with
 |add=>exact SR.az (aZ _ _ _ _) fun _=>SR.az (aZ _ _ _ _) fun _=>af (by simp[mv])
 |sub=>exact SR.az (aZ _ _ _ _) fun _=>SR.az (aZ _ _ _ _) fun _=>af (by simp[mv])
 |mul=>exact SR.az (kH _ _ _) fun _=>SR.az (kH _ _ _) fun _=>SR.az (kH _ _ _) fun _=>SR.az (kH _ _ _) fun _=>SR.az (Iy _ _ _ _) fun x=>fin _ _
 |quo=>exact SR.az (kH _ _ _) fun _=>SR.az (kH _ _ _) fun _=>SR.az (kH _ _ _) fun _=>SR.az (kH _ _ _) fun _=>SR.az (FD _ _ _ _) fun x=>fin _ _
 |eql=>exact SR.az (tO _ _ _ _) fun _=>SR.az (tO _ _ _ _) fun _=>af (by simp[mv])
 |neq=>exact SR.az (tO _ _ _ _) fun _=>SR.az (tO _ _ _ _) fun _=>af (by simp[mv])
 |_=>exact ae
end Go.Ren
namespace Go.Ren
set_option linter.unusedSimpArgs false
set_option linter.unusedVariables false
variable {P:Program} {ρ:Nat→Nat}
theorem IZ (H:OkG P ρ) (t:TypeId) (x y:Value):SV P ρ (do Pure.pure (.bool (←Op.equal t x y))) (do Pure.pure (.bool (←Op.equal t (mv ρ x) (mv ρ y)))):=
 SR.az (Fv H t x y) fun b=>af (by simp[mv])
theorem I6 (H:OkG P ρ) (t:TypeId) (x y:Value):SV P ρ (do Pure.pure (.bool (!(←Op.equal t x y)))) (do Pure.pure (.bool (!(←Op.equal t (mv ρ x) (mv ρ y))))):=
 SR.az (Fv H t x y) fun b=>af (by simp[mv])
theorem Mr (H:OkG P ρ) (op:BinOp) (t:TypeId) (k:IntKind) (a:Int) (y:Value):SV P ρ (binOp op t (.int k a) y) (binOp op t (.int k a) (mv ρ y)):=by
 have e1:=IZ H t (.int k a) y;have e2:=I6 H t (.int k a) y;rw[show mv ρ (.int k a)= .int k a by simp[mv]]at e1 e2;cases y with
 |int k' b=>rw[show mv ρ (.int k' b)= .int k' b by simp[mv]];cases op<;>first|exact FX .shl k a k' b|exact FX .shr k a k' b|exact SR.ite ae (xG _ _ _ _)|exact SR.ite ae (Mv _ _ _ _)|exact SR.ite ae (zG _ _ _ _)|exact SR.ite ae (Mt _ _ _)
 |pointer q=>
  simp only[mv]at e1 e2 ⊢;cases op with
  |eql=>exact e1
  |neq=>exact e2
  |add=>have:=rD (P:=P) (ρ:=ρ) t q (.int k a);rw[show mv ρ (.int k a)= .int k a by simp[mv]]at this;exact this
  |and=>
   cases q with
   |none=>exact aB (by simp)
   |some q=>exact SR.bnd (bz q) fun x x' e=>by rw[e];exact tV _ _ _
  |_=>exact aB (by simp)
 |_=>simp only[mv]at e1 e2 ⊢;cases op<;>first|exact e1|exact e2|exact ae
theorem Ms (H:OkG P ρ) (op:BinOp) (t:TypeId) (p:Option Addr) (y:Value):SV P ρ (binOp op t (.pointer p) y) (binOp op t (.pointer (p.map (bW ρ))) (mv ρ y)):=by
 have e1:=IZ H t (.pointer p) y;have e2:=I6 H t (.pointer p) y;have e3:=rD (P:=P) (ρ:=ρ) t p;have e4:=xU (P:=P) (ρ:=ρ) t p;rw[show mv ρ (.pointer p)= .pointer (p.map (bW ρ)) by simp[mv]]at e1 e2;cases y with
 |int k b=>
  have m:∀n,mv ρ (.int k n)= .int k n:=fun n=>by simp[mv]
  rw[m]at e1 e2 ⊢;cases op with
  |eql=>exact e1
  |neq=>exact e2
  |add=>have e3:=e3 (.int k b);have e4:=e4 (.int k b);rw[m]at e3 e4;refine SR.az (aF t) fun d=>?_;cases d<;>first|exact e4|exact e3
  |sub=>have e3:=e3 (.int k (-b));rw[m]at e3;exact e3
  |rem=>
   cases p with
   |none=>exact aB (by simp)
   |some p=>exact SR.bnd (bz p) fun x x' e=>by rw[e];exact tV _ _ _
  |and=>
   cases p with
   |none=>exact aB (by simp)
   |some p=>exact SR.bnd (bz p) fun x x' e=>by rw[e];exact tV _ _ _
  |_=>cases p<;>exact aB (by simp)
 |pointer q=>
  rw[show mv ρ (.pointer q)= .pointer (q.map (bW ρ)) by simp[mv]]at e1 e2 ⊢;cases op with
  |eql=>exact e1
  |neq=>exact e2
  |sub=>
   cases p with
   |none=>cases q<;>exact aB (by simp)
   |some p=>cases q with
    |none=>exact aB (by simp)
    |some q=>exact SR.bnd (bz p) fun x x' e=>SR.bnd (bz q) fun z z' e'=>by rw[e,e'];exact IW H _ _ _
  |lss=>
   cases p with
   |none=>cases q<;>exact aB (by simp)
   |some p=>cases q with
    |none=>exact aB (by simp)
    |some q=>exact SR.bnd (bz p) fun x x' e=>SR.bnd (bz q) fun z z' e'=>by rw[e,e'];exact qb H _ _ _
  |leq=>
   cases p with
   |none=>cases q<;>exact aB (by simp)
   |some p=>cases q with
    |none=>exact aB (by simp)
    |some q=>exact SR.bnd (bz p) fun x x' e=>SR.bnd (bz q) fun z z' e'=>by rw[e,e'];exact qb H _ _ _
  |gtr=>
   cases p with
   |none=>cases q<;>exact aB (by simp)
   |some p=>cases q with
    |none=>exact aB (by simp)
    |some q=>exact SR.bnd (bz p) fun x x' e=>SR.bnd (bz q) fun z z' e'=>by rw[e,e'];exact qb H _ _ _
  |geq=>
   cases p with
   |none=>cases q<;>exact aB (by simp)
   |some p=>cases q with
    |none=>exact aB (by simp)
    |some q=>exact SR.bnd (bz p) fun x x' e=>SR.bnd (bz q) fun z z' e'=>by rw[e,e'];exact qb H _ _ _
  |_=>cases p<;>cases q<;>exact aB (by simp)
 |_=>simp only[mv]at e1 e2 ⊢;cases op<;>first|exact e1|exact e2|(cases p<;>exact aB (by simp))
theorem PO (H:OkG P ρ) (op:BinOp) (t:TypeId) (x y:Value):SV P ρ (binOp op t x y) (binOp op t (mv ρ x) (mv ρ y)):=by
 have e1:=IZ H t x y;have e2:=I6 H t x y;cases x with
 |int k a=>rw[show mv ρ (.int k a)= .int k a by simp[mv]];exact Mr H op t k a y
 |pointer p=>rw[show mv ρ (.pointer p)= .pointer (p.map (bW ρ)) by simp[mv]];exact Ms H op t p y
 |float k a=>
  cases y with
  |float k' b=>simp only[mv];cases op<;>first|exact SR.ite ae (jf .add k a b)|exact SR.ite ae (jf .sub k a b)|exact SR.ite ae (jf .mul k a b)|exact SR.ite ae (jf .quo k a b)|exact SR.ite ae (xE _ k a b)
  |pointer q=>simp only[mv]at e1 e2 ⊢;cases op<;>first|exact e1|exact e2|exact aB (by simp)
  |_=>simp only[mv]at e1 e2 ⊢;cases op<;>first|exact e1|exact e2|exact ae
 |complex k a b=>
  cases y with
  |complex k' c d=>simp only[mv];have fin:=Di (P:=P) (ρ:=ρ) op k a b c d;cases op<;>exact SR.ite ae fin
  |pointer q=>simp only[mv]at e1 e2 ⊢;cases op<;>first|exact e1|exact e2|exact aB (by simp)
  |_=>simp only[mv]at e1 e2 ⊢;cases op<;>first|exact e1|exact e2|exact ae
 |string s=>
  cases y with
  |string s'=>simp only[mv];have fin:=rE (P:=P) (ρ:=ρ) op s s';cases op<;>exact fin
  |pointer q=>simp only[mv]at e1 e2 ⊢;cases op<;>first|exact e1|exact e2|exact aB (by simp)
  |_=>simp only[mv]at e1 e2 ⊢;cases op<;>first|exact e1|exact e2|exact ae
 |_=>
  cases y with
  |pointer q=>simp only[mv]at e1 e2 ⊢;cases op<;>first|exact e1|exact e2|exact aB (by simp)
  |_=>simp only[mv]at e1 e2 ⊢;cases op<;>first|exact e1|exact e2|exact ae
end Go.Ren
namespace Go.Ren
set_option linter.unusedSimpArgs false
set_option linter.unusedVariables false
variable {P:Program} {ρ:Nat→Nat}
theorem Mc {β:Type} {f f':Value→β→Sem (ForInStep β)} (h:∀a b,SE P ρ (f a b) (f' (mv ρ a) b)):∀(l:List Value) (b:β),SE P ρ (forIn l b f) (forIn (l.map (mv ρ)) b f'):=by
 intro l;induction l with
 |nil=>intro b;exact af rfl
 |cons x l ih=>
  intro b;rw[List.map_cons,List.forIn_cons,List.forIn_cons];refine SR.az (h x b) fun s=>?_;cases s with
  |done b=>exact af rfl
  |yield b=>exact ih b
theorem zA {β:Type} {f f':Value→β→Sem (ForInStep β)} (h:∀a b,SE P ρ (f a b) (f' (mv ρ a) b)) (l:Array Value) (b:β):SE P ρ (forIn l b f) (forIn (l.map (mv ρ)) b f'):=by rw[←Array.forIn_toList, ←Array.forIn_toList,Array.toList_map];exact Mc h _ _
theorem wG (x:Value):SV P ρ (Conv.bytesToString x) (Conv.bytesToString (mv ρ x)):=by
 unfold Conv.bytesToString;cases x<;>simp only[mv]<;>first|exact ae|skip
 rename_i a len c;cases a with
 |none=>exact af (by simp[mv])
 |some a=>
  refine SR.bnd (lY a len) fun l l' e=>?_;subst e;refine SR.az (zA (fun v s=>?_) l _) fun s=>af (by simp[mv]);cases v<;>simp only[mv]<;>first|exact fI|exact ae|skip
  rename_i k n;cases k<;>first|exact fI|exact ae|exact af rfl
theorem wI (x:Value):SV P ρ (Conv.runesToString x) (Conv.runesToString (mv ρ x)):=by
 unfold Conv.runesToString;cases x<;>simp only[mv]<;>first|exact ae|skip
 rename_i a len c;cases a with
 |none=>exact af (by simp[mv])
 |some a=>
  refine SR.bnd (lY a len) fun l l' e=>?_;subst e;refine SR.az (zA (fun v s=>?_) l _) fun s=>af (by simp[mv]);cases v<;>simp only[mv]<;>first|exact fI|exact ae|skip
  rename_i k n;cases k<;>first|exact fI|exact ae|exact af rfl
theorem wJ (e:TypeId) (s:ByteArray):SV P ρ (Conv.stringToBytes e s) (Conv.stringToBytes e s):=by
 unfold Conv.stringToBytes;refine SR.az (eH _) fun cap=>?_;have:=mq (P:=P) (ρ:=ρ) e ((s.data.map fun b=>Value.int .u8 b.toNat)++Array.replicate (cap-s.size) (.int .u8 0));have hm:Array.map (mv ρ) ((s.data.map fun b=>Value.int .u8 b.toNat)++Array.replicate (cap-s.size) (.int .u8 0))=(s.data.map fun b=>Value.int .u8 b.toNat)++Array.replicate (cap-s.size) (.int .u8 0):=by simp[mv,Function.comp_def]
 rw[hm]at this;refine SR.bnd this fun a a' ea=>?_;subst ea;exact SR.az (oW a) fun _=>af (by simp[mv])
theorem CV (s:ByteArray):∀(b i:Nat) (acc:Array Value),(Conv.runesFrom s b i acc).map (mv ρ)=Conv.runesFrom s b i (acc.map (mv ρ)):=by
 intro b;induction b with
 |zero=>intro i acc;rfl
 |succ b ih=>
  intro i acc;simp only[Conv.runesFrom];split
  ·rw[ih];simp[mv]
  ·rfl
theorem wK (e:TypeId) (s:ByteArray):SV P ρ (Conv.stringToRunes e s) (Conv.stringToRunes e s):=by
 unfold Conv.stringToRunes;have h:(Conv.runesFrom s s.size 0 #[]).map (mv ρ)=Conv.runesFrom s s.size 0 #[]:=by rw[CV];simp
 refine SR.az (eH _) fun cap=>?_;have:=mq (P:=P) (ρ:=ρ) e (Conv.runesFrom s s.size 0 #[]++Array.replicate (cap-(Conv.runesFrom s s.size 0 #[]).size) (.int .i32 0));rw[Array.map_append,h,show(Array.replicate (cap-(Conv.runesFrom s s.size 0 #[]).size) (Value.int .i32 0)).map (mv ρ)=Array.replicate (cap-(Conv.runesFrom s s.size 0 #[]).size) (.int .i32 0) by simp[mv]]at this;exact SR.bnd this fun a a' ea=>af (by rw[ea];simp[mv])
theorem BI (a:Addr):SR P ρ (fun x y=>y=bW ρ x) (Conv.seenAt a) (Conv.seenAt (bW ρ a)):=by
 unfold Conv.seenAt;refine SR.bnd (rW a.block) fun x x' e=>?_;subst e;cases x with
 |none=>exact af rfl
 |some x=>
  obtain⟨seen,u⟩:=x;rw[show(bW ρ a).off=a.off from rfl,show(bW ρ a).spot=a.spot from rfl];dsimp only[Option.map_some];rw[show(bW ρ seen).spot=seen.spot from rfl,show(bW ρ seen).off=seen.off from rfl,show(bW ρ seen).block=ρ seen.block from rfl];split
  ·exact af rfl
  ·split
   ·exact dO (by simp)
   ·refine nR fun _=>?_;split
    ·refine SR.az (fT seen.block) fun s=>?_;cases s with
     |none=>exact aB (by simp)
     |some y=>
      dsimp only;split
      ·exact dO (by simp)
      ·split
       ·exact af rfl
       ·exact aB (by simp)
    ·exact aB (by simp)
theorem Aj (s d:TypeId) (x:Value):SV P ρ (Conv.unsafePointer s d x) (Conv.unsafePointer s d (mv ρ x)):=by
 unfold Conv.unsafePointer;refine SR.az (aF s) fun u=>SR.az (aF d) fun v=>?_;cases x with
 |pointer p=>
  simp only[mv];cases u with
  |pointer t=>
   cases v with
   |unsafePointer=>
    cases p with
    |none=>exact af (by simp[mv])
    |some a=>
     refine SR.bnd (BI a) fun b b' e=>?_;subst e;refine SR.az (Ir b.block) fun c=>SR.az (dm t) fun n=>?_;rw[show(bW ρ b).off=b.off from rfl,show(bW ρ b).spot=b.spot from rfl];have fin:∀q:Bool,SV P ρ (if q=true then do Pure.pure (.pointer (some ⟨←newObj (.view b t),0,none⟩))else Pure.pure (.pointer (some b))) (if q=true then do Pure.pure (.pointer (some ⟨←newObj (.view (bW ρ b) t),0,none⟩))else Pure.pure (.pointer (some (bW ρ b)))):=by
      intro q;cases q with
      |true=>exact SR.bnd (o8 (.view b t) (by simp)) fun r r' e=>af (by rw[e];simp[mv,bW])
      |false=>exact af (by simp[mv])
     split<;>exact fin _
   |_=>cases p<;>exact ae
  |unsafePointer=>
   cases v with
   |pointer t=>
    cases p with
    |none=>exact af (by simp[mv])
    |some a=>
     refine SR.bnd (BI a) fun b b' e=>?_;subst e;refine SR.az (dm t) fun n=>SR.az (rC b t 1) fun w=>?_;split
     ·exact af (by simp[mv])
     ·refine SR.az (fT b.block) fun sh=>?_;have fin:SV P ρ (do Pure.pure (.pointer (some ⟨←newObj (.view b t),0,none⟩))) (do Pure.pure (.pointer (some ⟨←newObj (.view (bW ρ b) t),0,none⟩))):=
       SR.bnd (o8 (.view b t) (by simp)) fun r r' e=>af (by rw[e];simp[mv,bW])
      cases sh with
      |none=>exact dO (by simp)
      |some y=>
       refine SR.az f_ fun pr=>SR.az f_ fun pr'=>?_;split
       ·exact dO (by simp)
       ·exact fin
   |unsafePointer=>cases p<;>exact af (by simp[mv])
   |int k=>cases p with
    |none=>exact af (by simp[mv])
    |some a=>exact xD _ _
   |_=>cases p<;>exact ae
  |int k=>
   cases v with
   |unsafePointer=>cases p<;>first|exact aB (by simp)|exact ae
   |_=>cases p<;>exact ae
  |_=>cases v<;>cases p<;>exact ae
 |int k n=>
  cases u with
  |int k'=>cases v with
   |unsafePointer=>rcases n with(_|n)|n<;>exact aB (by simp)
   |_=>exact ae
  |_=>first|exact ae|(cases v<;>exact ae)
 |_=>cases u<;>first|exact ae|(cases v<;>exact ae)
theorem IY (s d:TypeId) (x:Value):SV P ρ (convert s d x) (convert s d (mv ρ x)):=by
 unfold convert;refine SR.az (aF s) fun u=>SR.az (aF d) fun v=>?_;have vG:=Aj (P:=P) (ρ:=ρ) s d x;have other:∀y:Sem Value,SV P ρ (unsupported (.noEntry "convert/other")) y:=fun y=>aB (by simp);cases x with
 |int k n=>
  simp only[mv]at vG ⊢;cases v with
  |int k'=>cases u<;>exact af (by simp[mv])
  |float k'=>cases u<;>exact af (by simp[mv])
  |string=>cases u<;>exact af (by simp[mv])
  |unsafePointer=>cases u<;>exact vG
  |_=>cases u<;>first|exact vG|exact other _
 |float k n=>
  simp only[mv]at vG ⊢;cases v with
  |int k'=>cases u<;>exact Ak _ _ _
  |float k'=>cases u<;>exact jl _ _ _
  |unsafePointer=>cases u<;>exact vG
  |string=>
   cases u<;>first|exact vG|exact other _|skip
   rename_i e;refine SR.az (aF e) fun w=>?_;cases w<;>first|exact ae|skip
   rename_i kk;cases kk<;>exact ae
  |_=>cases u<;>first|exact vG|exact other _
 |complex k a b=>
  simp only[mv]at vG ⊢;cases v with
  |complex k'=>cases u<;>exact sD _ _ _ _
  |unsafePointer=>cases u<;>exact vG
  |string=>
   cases u<;>first|exact vG|exact other _|skip
   rename_i e;refine SR.az (aF e) fun w=>?_;cases w<;>first|exact ae|skip
   rename_i kk;cases kk<;>exact ae
  |_=>cases u<;>first|exact vG|exact other _
 |string t=>
  simp only[mv]at vG ⊢;cases v with
  |string=>cases u<;>exact af (by simp[mv])
  |slice e=>
   have fin:SV P ρ (do match ←underlying e with
    | .int .u8=>Conv.stringToBytes e t
    | .int .i32=>Conv.stringToRunes e t
    |_=>stuck "Convert: string to a slice of what?") (do match ←underlying e with
    | .int .u8=>Conv.stringToBytes e t
    | .int .i32=>Conv.stringToRunes e t
    |_=>stuck "Convert: string to a slice of what?"):=by
    refine SR.az (aF e) fun w=>?_;cases w<;>first|exact ae|skip
    rename_i kk;cases kk<;>first|exact ae|exact wJ _ _|exact wK _ _
   cases u<;>exact fin
  |unsafePointer=>cases u<;>exact vG
  |_=>cases u<;>first|exact vG|exact other _
 |slice a len cap=>
  simp only[mv]at vG ⊢;have b1:=wG (P:=P) (ρ:=ρ) (.slice a len cap);have b2:=wI (P:=P) (ρ:=ρ) (.slice a len cap);simp only[mv]at b1 b2;cases v with
  |string=>
   cases u<;>first|exact vG|exact other _|skip
   rename_i e;refine SR.az (aF e) fun w=>?_;cases w<;>first|exact ae|skip
   rename_i kk;cases kk<;>first|exact ae|exact b1|exact b2
  |unsafePointer=>cases u<;>exact vG
  |slice e=>
   cases a with
   |none=>cases u<;>first|exact vG|exact other _
   |some a=>
    cases u<;>first|exact vG|exact other _|skip
    refine SR.az (aF e) fun w=>?_;cases (s==d)with
    |false=>exact other _
    |true=>
     cases w<;>first|exact other _|skip
     rename_i kk;cases kk<;>first|exact other _|exact SR.az (oW a) fun _=>af (by simp[mv])
  |_=>cases u<;>first|exact vG|exact other _
 |pointer p=>
  simp only[mv]at vG ⊢;have ao:∀y:Sem Value,SV P ρ (unsupported .addressObserved) y:=fun y=>aB (by simp);cases v with
  |string=>
   cases u<;>first|exact vG|exact other _|(cases p<;>first|exact ao _|exact other _)|skip
   rename_i e;refine SR.az (aF e) fun w=>?_;cases w<;>first|exact ae|skip
   rename_i kk;cases kk<;>exact ae
  |unsafePointer=>cases u<;>exact vG
  |_=>cases u<;>first|exact vG|exact other _|(cases p<;>first|exact ao _|exact other _)
 |_=>
  simp only[mv]at vG ⊢;cases v with
  |string=>
   cases u<;>first|exact vG|exact other _|skip
   rename_i e;refine SR.az (aF e) fun w=>?_;cases w<;>first|exact ae|skip
   rename_i kk;cases kk<;>exact ae
  |unsafePointer=>cases u<;>exact vG
  |_=>cases u<;>first|exact vG|exact other _
end Go.Ren
namespace Go.Ren
set_option linter.unusedSimpArgs false
set_option linter.unusedVariables false
variable {P:Program} {ρ:Nat→Nat}
def Zw (ρ:Nat→Nat):Target→Target
 | .fn fn c=>.fn fn (c.map (mv ρ))
 |t=>t
def zU (ρ:Nat→Nat) (d:Deferred):Deferred:={target:=Zw ρ d.target,args:=d.args.map (mv ρ)}
def za (ρ:Nat→Nat):Next→Next
 | .value v=>.value (mv ρ v)
 | .enter f args=>.enter f (args.map (mv ρ))
 | .defer d=>.defer (zU ρ d)
 | .spawn d=>.spawn (zU ρ d)
 |n=>n
def okD (fs:FuncId→Bool) (d:Deferred):Prop:=
 match d.target with
 | .fn (.func f) _=>fs f=true
 |_=>False
def fM:FuncId:=1000000007
def lS:FuncId:=1000000009
def Vf (fs:FuncId→Bool):Next→Prop
 | .value _=>True
 | .skip=>True
 | .spawn _=>fs fM=true
 | .enter f _=>fs f=true
 | .defer d=>okD fs d∧fs lS=true
 |_=>False
abbrev SN (P:Program) (ρ:Nat→Nat) (fs:FuncId→Bool) (s s':Sem Next):Prop:=SR P ρ (fun n n'=>n'=za ρ n∧Vf fs n) s s'
def CQ:Value→Bool
 | .bool _=>true
 | .int _ _=>true
 | .string _=>true
 | .pointer none=>true
 | .slice none _ _=>true
 | .nilIface=>true
 | .nilFunc=>true
 |_=>false
theorem vR {v:Value} (h:CQ v=true):mv ρ v=v:=by
 cases v with
 |bool=>simp only[mv]
 |int=>simp only[mv]
 |string=>simp only[mv]
 |nilIface=>simp only[mv]
 |nilFunc=>simp only[mv]
 |pointer a=>cases a with
  |none=>simp[mv]
  |some a=>cases h
 |slice a l c=>cases a with
  |none=>simp[mv]
  |some a=>cases h
 |_=>cases h
def gH:Operand→Bool
 | .const v=>CQ v
 | .global g=>decide (g<7)
 |_=>true
def okB:Builtin→Bool
 | .append=>true
 | .clear=>true
 | .copy=>true
 | .len=>true
 | .max=>true
 | .min=>true
 | .unsafeString=>true
 | .unsafeSliceData=>true
 |_=>false
def CJ (fs:FuncId→Bool) (c:Call):Bool:=
 c.args.all gH&&match c.callee with
  | .builtin b=>okB b
  | .value (.func f)=>fs f
  |_=>false
def vQ (fs:FuncId→Bool):Op→Bool
 | .move x| .assign x| .box _ x| .load _ x| .nilCheck x| .unOp _ _ x| .convert _ _ x| .makeInterface _ x| .fieldAddr _ x _| .field _ x _| .extract x _| .panic x=>gH x
 | .alloc _=>true
 | .pick a b c=>gH a&&gH b&&gH c
 | .build _ ps=>ps.all fun x=>gH x.2
 | .buildSlice _ _ ps=>ps.all fun x=>gH x.2
 | .store _ a b| .binOp _ _ a b _| .makeSlice _ a b| .indexAddr _ a b| .index _ a b=>gH a&&gH b
 | .slice _ x l h m=>gH x&&l.all gH&&h.all gH&&m.all gH
 | .makeFunc _ a b=>a.all gH&&b.all gH
 | .call c=>CJ fs c
 | .defer c=>c.args.all gH&&fs lS&&match c.callee with| .value (.func f)=>fs f|_=>false
 | .go c=>c.args.all gH&&fs fM&&match c.callee with| .value x=>gH x|_=>false
 |_=>false
theorem kV {fs:FuncId→Bool} {s s':Sem Value} (h:SV P ρ s s'):SN P ρ fs (do Pure.pure (.value (←s))) (do Pure.pure (.value (←s'))):=SR.kZ h fun v=>af ⟨rfl,trivial⟩
theorem adh {fs:FuncId→Bool} {s s':Sem Unit} (h:SE P ρ s s'):SN P ρ fs (do s;Pure.pure .skip) (do s';Pure.pure .skip):=SR.az h fun v=>af ⟨rfl,trivial⟩
theorem II {fs:FuncId→Bool} (H:OkG P ρ) (b:Builtin) (hb:okB b=true) (ts:Array TypeId) (t:TypeId) (cs:Array Bool) (args:Array Value):SN P ρ fs (builtin b ts t cs args) (builtin b ts t cs (args.map (mv ρ))):=by
 cases b<;>first|cases hb|skip
 ·exact kV (Mq H.toOkP ts t args)
 ·exact kV (PS H.toOkP ts t args)
 ·exact kV (RF ts t args)
 ·exact kV (VM ts t args)
 ·exact kV (VN ts t args)
 ·exact kV (VO ts t args)
 ·exact kV (tX ts t args)
 ·exact kV (xV ts t args)
theorem zI:SV P ρ (runtimePanic .panicNil) (runtimePanic .panicNil):=by refine nR fun _=>?_;refine SR.az (vW _) fun e=>?_;have:=wD (P:=P) (ρ:=ρ) e (.agg #[]);rw[show mv ρ (.agg #[])= .agg #[] by simp[mv]]at this;refine SR.bnd this fun a a' ea=>?_;subst ea;have:=tT (P:=P) (ρ:=ρ) (Q:=fun(x y:Value)=>y=mv ρ x) (.iface P.rt.panicNilError (.pointer (some a)));simp only[mv,Option.map_some]at this;exact this
theorem CO (w:World) (es:Array Event):CL ((runtimePanic .panicNil:Sem Value).runT P w es).1:=by
 unfold runtimePanic elemOf underlying newVar newRow newObj goPanic program;simp only[bind,Sem.bind,pure,Sem.runT];cases P.underlying P.rt.panicNilError with
 |none=>exact trivial
 |some d=>cases d<;>exact trivial
theorem PV (x:Value):SV P ρ (Instr.panic x) (Instr.panic (mv ρ x)):=by
 cases x<;>simp only[mv]<;>first|exact ae|skip
 ·rename_i t v;have:=tT (P:=P) (ρ:=ρ) (Q:=fun(a b:Value)=>b=mv ρ a) (.iface t v);simp only[mv]at this;exact this
 ·have nf:SV P ρ (goPanic .nilIface) (goPanic .nilIface):=xA _ (by simp[mv]);refine SR.env (fun r w es=>?_) fun r=>?_
  ·cases r<;>first|exact trivial|skip
   rename_i l;simp only[Sem.bind,bind,pure,program,sys,Sem.runT];split
   ·exact trivial
   ·exact CO _ _
  ·cases r<;>first|exact .dead trivial|skip
   refine SR.program ?_;simp only[Sem.bind,bind,pure,program,sys];split
   ·exact nf
   ·exact zI
end Go.Ren
namespace Go.Ren
set_option linter.unusedSimpArgs false
set_option linter.unusedVariables false
variable {P:Program} {ρ:Nat→Nat}
def FbR (ρ:Nat→Nat) (x y:Except (Option Bool) (TypeId × Option Value)):Prop:=y=x.map fun z=>(z.1,z.2.map (mv ρ))
theorem zD:∀(l:List FieldStep) (t:TypeId) (x:Option Value),SR P ρ (FbR ρ) (followBlind l t x) (followBlind l t (x.map (mv ρ))):=by
 intro l;induction l with
 |nil=>intro t x;exact af rfl
 |cons s l ih=>
  intro t x;unfold followBlind;refine SR.az (aF s.struct) fun d=>?_;cases d<;>first|exact ae|skip
  rename_i fields;dsimp only;cases fields[s.index]? with
  |none=>exact ae
  |some f=>
   dsimp only;cases s.deref with
   |true=>
    cases x with
    |none=>exact af rfl
    |some v=>
     simp only[Option.map_some];cases v with
     |pointer p=>cases p with
      |none=>simp only[mv,Option.map_none];exact af rfl
      |some p=>simp only[mv,Option.map_some];exact ih _ none
     |_=>exact ae
   |false=>
    cases x with
    |none=>exact ih _ none
    |some v=>
     simp only[Option.map_some];cases v with
     |agg cs=>simp only[mv];exact SR.kZ (jS _ _ _) fun v=>ih _ (some v)
     |_=>exact ae
theorem FC:∀(n:Nat) (t:TypeId) (v:Value) (name:String),SE P ρ (nilAhead n t v name) (nilAhead n t (mv ρ v) name):=by
 intro n;induction n with
 |zero=>intro t v name;exact af rfl
 |succ n ih=>
  intro t v name;unfold nilAhead;refine SR.az (dU t) fun i=>?_;split
  ·rename_i m _;refine SR.bnd (zD m.path.toList t (some v)) fun x y e=>?_;unfold FbR at e;subst e;cases x with
   |error r=>exact af rfl
   |ok z=>
    obtain⟨xt,x⟩:=z;simp only[Except.map];cases m.func with
    |none=>
     cases x with
     |none=>exact af rfl
     |some w=>
      simp only[Option.map_some];cases w with
      |iface t' v'=>simp only[mv];exact ih _ _ _
      |nilIface=>simp only[mv];exact af rfl
      |_=>exact ae
    |some fp=>
     obtain⟨f,p⟩:=fp;cases p with
     |true=>exact af rfl
     |false=>
      refine SR.az (aF xt) fun d=>?_;cases d<;>first|exact af rfl|skip
      cases x with
      |none=>exact af rfl
      |some w=>
       simp only[Option.map_some];cases w with
       |pointer p=>cases p<;>simp only[mv,Option.map_none,Option.map_some]<;>exact af rfl
       |_=>simp only[mv];exact af rfl
  ·exact ae
end Go.Ren
namespace Go.Ren
set_option linter.unusedSimpArgs false
set_option linter.unusedVariables false
variable {P:Program} {ρ:Nat→Nat}
structure M9 (ρ:Nat→Nat) (e e':Operand→Value):Prop where
 ok:∀x,gH x=true→e' x=mv ρ (e x)
 fn:∀f,e (.func f)= .func (.func f) #[] #[]
theorem M9.args {e e':Operand→Value} (h:M9 ρ e e') {l:Array Operand} (hl:l.all gH=true):l.map e'=(l.map e).map (mv ρ):=by
 rw[Array.map_map];apply Array.map_congr_left;intro x hx
 exact h.ok x (by
  rw[Array.all_eq_true']at hl
  exact hl x hx)
theorem M9.parts {e e':Operand→Value} (h:M9 ρ e e') {l:Array (Nat × Operand)} (hl:(l.all fun x=>gH x.2)=true):(l.map fun(i,x)=>(i,e' x))=(l.map fun(i,x)=>(i,e x)).map fun x=>(x.1,mv ρ x.2):=by
 rw[Array.map_map];apply Array.map_congr_left;intro x hx
 have:=h.ok x.2 (by
  rw[Array.all_eq_true']at hl
  exact hl x hx)
 simp[this]
theorem M9.opt {e e':Operand→Value} (h:M9 ρ e e') {l:Option Operand} (hl:l.all gH=true):l.map e'=(l.map e).map (mv ρ):=by
 cases l with
 |none=>rfl
 |some x=>simp only[Option.map_some];rw[h.ok x (by simpa using hl)]
theorem IM {e e':Operand→Value} (h:M9 ρ e e') (c:Call) (t:TypeId) (ha:c.args.all gH=true) (hc:match c.callee with| .builtin _=>True| .value x=>gH x=true|_=>False):
 SR P ρ (fun d d'=>d'=zU ρ d) (resolve e c t) (resolve e' c t):=by
 unfold resolve;rw[h.args ha];cases hcc:c.callee with
 |builtin b=>exact af (by simp[zU,Zw])
 |value x=>rw[hcc]at hc;dsimp only;rw[h.ok x hc];cases e x<;>simp only[mv,Deferred.ofValue]<;>first|exact ae|exact af (by simp[zU,Zw])
 |invoke r m=>rw[hcc]at hc;exact hc.elim
def QC (P:Program) (ρ:Nat→Nat) (fs:FuncId→Bool):Prop:=∀f,fs f=true→∀args,SN P ρ fs (callFunc f args) (callFunc f (args.map (mv ρ)))
theorem Rz (H:OkG P ρ) {fs:FuncId→Bool} (hf:QC P ρ fs) {e e':Operand→Value} (h:M9 ρ e e') (c:Call) (t:TypeId) (hc:CJ fs c=true):
 SN P ρ fs (do let d ←resolve e c t;invoke d.target d.args) (do let d ←resolve e' c t;invoke d.target d.args):=by
 unfold CJ at hc;rw[Bool.and_eq_true]at hc;obtain⟨ha,hc⟩:=hc;unfold resolve;rw[h.args ha];cases hcc:c.callee with
 |builtin b=>rw[hcc]at hc;exact II H b hc _ _ _ _
 |value x=>
  rw[hcc]at hc;cases x with
  |func f=>dsimp only;rw[h.ok (.func f) rfl,h.fn f];simp only[mv,Array.map_empty];have:=hf f hc (c.args.map e);show SN P ρ fs (callFunc f ((#[]++c.args.map e)++ #[])) (callFunc f ((#[]++(c.args.map e).map (mv ρ))++ #[]));simpa using this
  |_=>cases hc
 |invoke r m=>rw[hcc]at hc;cases hc
theorem Fu (t:TypeId) (x y:Operand) (a b:Value):SE P ρ (eqGuard .eql t x y a b) (eqGuard .eql t x y (mv ρ a) (mv ρ b)):=by
 unfold eqGuard;simp only[Bool.not_true,Bool.false_eq_true, ↓reduceIte]
 ·cases a with
  |nilIface=>
   simp only[mv];cases b with
   |nilIface=>simp only[mv];have:=uW (P:=P) (ρ:=ρ) Op.maxDepth t .nilIface .nilIface;simp only[mv]at this;exact SR.ite (af rfl) (SR.az this fun b=>SR.ite (aB (by simp)) (af rfl))
   |_=>simp only[mv];exact af rfl
  |agg xs=>
   simp only[mv];cases b with
   |agg ys=>
    simp only[mv];refine SR.az f_ fun p=>SR.az f_ fun p'=>?_;split
    ·exact af rfl
    ·have:=uW (P:=P) (ρ:=ρ) Op.maxDepth t (.agg xs) (.agg ys);simp only[mv]at this;refine SR.az this fun b=>?_;split
     ·exact aB (by simp)
     ·exact af rfl
   |_=>simp only[mv];exact af rfl
  |_=>simp only[mv];first|exact af rfl|(cases b<;>simp only[mv]<;>exact af rfl)
theorem Iu (op:BinOp) (t:TypeId) (x y:Operand) (a b:Value):SE P ρ (eqGuard op t x y a b) (eqGuard op t x y (mv ρ a) (mv ρ b)):=by have m:=Fu (P:=P) (ρ:=ρ) t x y a b;cases op<;>first|exact af rfl|exact m
theorem vZ (H:OkG P ρ) {fs:FuncId→Bool} (hf:QC P ρ fs) {e e':Operand→Value} (h:M9 ρ e e') (o:Oper) (ho:vQ fs o.op=true):SN P ρ fs (execOp e o) (execOp e' o):=by
 unfold execOp;cases hop:o.op<;>rw[hop]at ho<;>(try (cases ho;done))<;>simp only[vQ,Bool.and_eq_true]at ho<;>dsimp only
 case move x=>rw[h.ok x ho];exact af ⟨rfl,trivial⟩
 case assign x=>rw[h.ok x ho];exact af ⟨rfl,trivial⟩
 case pick a b c=>rw[h.ok _ ho.1.1,h.ok _ ho.1.2,h.ok _ ho.2];refine SR.az (rU _) fun t=>?_;cases t<;>exact af ⟨rfl,trivial⟩
 case alloc t=>exact kV (PN H.toOkP t)
 case box t x=>rw[h.ok x ho];exact kV (VL _ _)
 case build t ps=>rw[h.parts ho];exact kV (PR H.toOkP _ _)
 case buildSlice t n ps=>rw[h.parts ho];exact kV (Ai H.toOkP _ _ _)
 case load t x=>rw[h.ok x ho];exact kV (Mw _ _)
 case store t a b=>rw[h.ok _ ho.1,h.ok _ ho.2];exact adh (Iz _ _ _)
 case nilCheck x=>
  rw[h.ok x ho];generalize e x=y;have same:SN P ρ fs (Pure.pure (.value y)) (Pure.pure (.value (mv ρ y))):=af ⟨rfl,trivial⟩;cases y with
  |pointer p=>cases p<;>simp only[mv,Option.map_none,Option.map_some]at same ⊢ <;>first|exact same|exact b_ _ rfl
  |func fn first captured=>
   simp only[mv]at same ⊢;cases fn with
   |method name=>
    dsimp only;rw[Array.getElem?_map];rcases first[0]? with _|w
    ·exact same
    ·simp only[Option.map_some];cases w<;>simp only[mv]<;>first|exact same|exact b_ _ rfl|skip
     rename_i t w;refine nR fun _=>SR.az (FC _ t w name) fun b=>?_;split
     ·exact dO (by simp)
     ·exact same
   |_=>exact same
  |_=>simp only[mv]at same ⊢;first|exact same|exact b_ _ rfl
 case binOp op t a b t'=>rw[h.ok _ ho.1,h.ok _ ho.2];exact kV (SR.az (Iu _ _ _ _ _ _) fun _=>PO H _ _ _ _)
 case unOp op t x=>rw[h.ok x ho];exact kV (PX _ _)
 case convert s d x=>rw[h.ok x ho];exact kV (IY _ _ _)
 case makeInterface t x=>rw[h.ok x ho];exact kV (wH _ _)
 case makeFunc fn a b=>rw[h.args ho.1,h.args ho.2];exact kV (FV _ _ _)
 case makeSlice t a b=>rw[h.ok _ ho.1,h.ok _ ho.2];exact kV (Dl H.toOkP _ _ _)
 case slice t x l hi m=>rw[h.ok _ ho.1.1.1,h.opt ho.1.1.2,h.opt ho.1.2,h.opt ho.2];exact kV (I7 _ _ _ _ _)
 case fieldAddr t x f=>rw[h.ok x ho];exact kV (I4 _ _ _)
 case field t x f=>rw[h.ok x ho];exact kV (PT _ _ _)
 case indexAddr t a b=>rw[h.ok _ ho.1,h.ok _ ho.2];exact kV (I5 _ _ _)
 case index t a b=>rw[h.ok _ ho.1,h.ok _ ho.2];exact kV (PU _ _ _)
 case extract x i=>rw[h.ok x ho];exact kV (I1 _ _)
 case call c=>exact Rz H hf h c _ ho
 case go c=>
  refine SR.bnd (IM h c _ ho.1.1 ?_) fun d d' e=>af ⟨by rw[e];rfl,ho.1.2⟩;have:=ho.2
  revert this
  cases c.callee<;>intro this<;>first|cases this|exact this
 case defer c=>
  have h2:=ho.2;have h3:=ho.1.2;unfold resolve;rw[h.args ho.1.1];cases hcc:c.callee with
  |builtin b=>rw[hcc]at h2;cases h2
  |value x=>
   rw[hcc]at h2;cases x with
   |func f=>dsimp only;rw[h.ok (.func f) rfl,h.fn f];simp only[mv,Array.map_empty];exact af ⟨by simp[za,zU,Zw],h2,h3⟩
   |_=>cases h2
  |invoke r m=>rw[hcc]at h2;cases h2
 case panic x=>rw[h.ok x ho];exact kV (PV _)
end Go.Ren
