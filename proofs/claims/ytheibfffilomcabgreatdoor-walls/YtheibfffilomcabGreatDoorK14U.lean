import Derived.Test.YtheibfffilomcabGreatDoorR4U
import Derived.Test.YtheibfffilomcabGreatDoorK11U
import Derived.Test.YtheibfffilomcabGreatDoorS16U
import Derived.Conc.RingFork
import Derived.Conc.AppendWalk
set_option linter.all false
set_option maxRecDepth 100000
set_option maxHeartbeats 8000000
namespace Go.Proofs.YtheibfffilomcabGreatDoor
open Go.Ren Go.Conc Go.ConcN Go.RowKit Go.Conc.Lib Go.ConcR.Gen Go.ConcN.Gen Go.Proofs.Tryz
open Go.ConcR (KK wgBlock WgAt stA smA rd wr Payload Aside2 DC0 ofEvent_cell)
set_option linter.unusedSimpArgs false
set_option linter.unusedVariables false
theorem ab2:q8[0]? =some {dst:=some 25,op:=.binOp .lss 3 (.tmp 24) (.tmp 23) 3,type:=0,pos:= "slate.go:113",after:=#[],guard:=none}:=rfl
theorem ab3:q9[0]? =some {dst:=some 26,op:=.move (.tmp 24),type:=3,pos:= "slate.go:113",after:=#[],guard:=none}:=rfl
theorem ab4:q9[1]? =some {dst:=some 27,op:=.indexAddr 24 (.tmp 22) (.tmp 24),type:=0,pos:= "slate.go:113",after:=#[],guard:=none}:=rfl
theorem ab5:q9[2]? =some (p9 2):=rfl
theorem ab6:q9[3]? =some (p9 3):=rfl
theorem ab7:q9[4]? =some (p9 4):=rfl
theorem ab8:q9[5]? =some (p9 5):=rfl
theorem ab9:q9[6]? =some (p9 6):=rfl
theorem YN:q10[0]? =some (p10 0):=rfl
theorem Lc {w₁ w₂:World} (o o':Obj):grown (grown (fun _=>False) w₁ (w₁.alloc o)) w₂ (w₂.alloc o')=SX w₁.heap.size w₂.heap.size:=by
 have s1:(w₁.alloc o).heap.size=w₁.heap.size+1:=by simp
 have s2:(w₂.alloc o').heap.size=w₂.heap.size+1:=by simp
 funext b;apply propext;simp only[grown,SX,s1,s2];constructor
 ·rintro((x|x)|x)
  ·exact x.elim
  ·exact .inr (.inl (by omega))
  ·exact .inr (.inr (by omega))
 ·rintro(x|x|x)
  ·exact x.elim
  ·exact .inl (.inr (by omega))
  ·exact .inr (by omega)
section
variable {q:WP} (h:q.Ok)
include h
local notation "GG" =>GE prog true q.Bs
theorem Lr {r k:Nat} (hkr:k+(r+1)=q.n) (ih:∀(x0 x1 x5 x6 x7 x10 x11 x12 x13 x14 x15 x16 x17 x18 x19 x20 x21 x25 x26 x27 x28 x29 x30 x31 x32 x33:Value) (w:World),BK q w→GG (q.c.Gx r) (fun _=>False) (G (b5.at ⟨#[x0,x1,q.gv,.pointer (some ⟨q.rb,0,none⟩),.pointer (some ⟨q.cb,0,none⟩),x5,x6,x7,.pointer (some ⟨q.db,0,none⟩),.pointer (some ⟨q.Wg,0,none⟩),x10,x11,x12,x13,x14,x15,x16,x17,x18,x19,x20,x21,q.gv,.int .i64 q.n,.int .i64 ((k+1:Nat):Int),x25,x26,x27,x28,x29,x30,x31,x32,x33],[]⟩ [.code LB,.inLoop LB,.inBlock 0,.code MW]) q.cs) w)
 (x0 x1 x5 x6 x7 x10 x11 x12 x13 x14 x15 x16 x17 x18 x19 x20 x21 x25 x26 x27 x28 x29 x30 x31 x32 x33:Value) (w:World) (hF:BK q w):GG (q.c.Gx (r+1)) (fun _=>False) (G (b5.at ⟨#[x0,x1,q.gv,.pointer (some ⟨q.rb,0,none⟩),.pointer (some ⟨q.cb,0,none⟩),x5,x6,x7,.pointer (some ⟨q.db,0,none⟩),.pointer (some ⟨q.Wg,0,none⟩),x10,x11,x12,x13,x14,x15,x16,x17,x18,x19,x20,x21,q.gv,.int .i64 q.n,.int .i64 k,x25,x26,x27,x28,x29,x30,x31,x32,x33],[]⟩ [.code LB,.inLoop LB,.inBlock 0,.code MW]) q.cs) w:=by
 have hk:k<q.n:=by omega
 have hkz:(k:Int)<(q.n:Int):=by omega
 have hk0:(0:Int)≤(k:Int):=by omega
 obtain⟨hgv,hgb⟩:=h.gv (by omega);rw[hgv]
 conv=>arg 6;arg 1;arg 3;rw[Sg]
 refine au rfl (fun _=>stepG_seq) fun w₁ y=>?_
 replace hF:=bQ h hF y
 refine au rfl (fun _=>stepG_region) fun w₁ y=>?_
 replace hF:=bQ h hF y
 rw[r8];refine nV (v:=.bool true) ab2 rfl (by decide) (fun w=>by unfold execOp;simp[Act.eval,go_sem,hk]) (fun w=>by unfold execOp;simp[Act.eval,go_sem]) fun w₁ y=>?_
 replace hF:=bQ h hF y
 walk_nrm
 refine au rfl (fun _=>stepG_region_end) fun w₁ y=>?_
 replace hF:=bQ h hF y
 refine au rfl (fun _=>stepG_seq) fun w₁ y=>?_
 replace hF:=bQ h hF y
 refine au rfl (fun _=>stepG_cond (t:=true) rfl) fun w₁ y=>?_
 replace hF:=bQ h hF y
 simp only[↓reduceIte];refine au rfl (fun _=>stepG_skip) fun w₁ y=>?_
 replace hF:=bQ h hF y
 refine au rfl (fun _=>stepG_seq) fun w₁ y=>?_
 replace hF:=bQ h hF y
 refine au rfl (fun _=>stepG_block) fun w₁ y=>?_
 replace hF:=bQ h hF y
 refine au rfl (fun _=>stepG_seq) fun w₁ y=>?_
 replace hF:=bQ h hF y
 refine au rfl (fun _=>stepG_region) fun w₁ y=>?_
 replace hF:=bQ h hF y
 rw[r9];refine lT ab3 rfl (by decide) (.inl rfl) rfl fun w₁ y=>?_
 replace hF:=bQ h hF y
 walk_nrm
 refine nV (v:=.pointer (some ⟨q.gb,k,none⟩)) ab4 rfl (by decide) (fun w=>by unfold execOp;simp[Act.eval,go_sem,hk,hkz,hk0]) (fun w=>by unfold execOp;simp[Act.eval,go_sem,hk,hkz,hk0]) fun w₁ y=>?_
 replace hF:=bQ h hF y
 walk_nrm
 refine GE.read (ad:=⟨q.gb,k,none⟩) rfl (.inl hgb) fun w₁ y=>⟨jQ (.inr (.inl rfl)) ab5 rfl (by decide) rfl rfl ((bQ h hF y).x k hk) yY,?_⟩
 replace hF:=bQ h hF y
 have e2:(p9 2).dst=some 28:=rfl;rw[e2]
 walk_nrm
 refine Ey (.inl ⟨rfl,rfl⟩) ab6 rfl (by decide) rfl fun w₁ y=>?_
 replace hF:=bQ h hF y
 have e3:(p9 3).dst=some 10:=rfl;rw[e3]
 walk_nrm
 have hi:(w₁.alloc (.cells #[.int .i64 0] 3)).heap[w₁.heap.size]? =some (.cells #[.int .i64 0] 3):=bJ _ _;have hlo:=hF.low
 replace hF:BK q (w₁.alloc (.cells #[.int .i64 0] 3)):=A9 h _ _ (fun b hb=>h_ _ _ _ (aH hb.1 hlo)) (by simp) rfl hF
 refine Ey (.inr ⟨rfl,rfl⟩) ab7 rfl (by decide) rfl fun w₂ y=>?_
 replace hF:=bQ h hF y
 have e4:(p9 4).dst=some 11:=rfl;rw[e4]
 walk_nrm
 have hi2:=(y.keep w₁.heap.size (.inr (.inr ⟨bE _,by simp⟩))).trans hi;have hz2:w₁.heap.size<w₂.heap.size:=by have:=y.size;simp at this;omega
 have hlo2:=hF.low;have ht:(w₂.alloc (.cells #[.string ⟨#[]⟩] 9)).heap[w₂.heap.size]? =some (.cells #[.string ⟨#[]⟩] 9):=bJ _ _;have hi3:(w₂.alloc (.cells #[.string ⟨#[]⟩] 9)).heap[w₁.heap.size]? =some (.cells #[.int .i64 0] 3):=(h_ _ _ _ hz2).trans hi2
 replace hF:BK q (w₂.alloc (.cells #[.string ⟨#[]⟩] 9)):=A9 h _ _ (fun b hb=>h_ _ _ _ (aH hb.1 hlo2)) (by simp) rfl hF
 have hI:IK q w₁.heap.size w₂.heap.size (.int .i64 0) (.string ⟨#[]⟩) (w₂.alloc (.cells #[.string ⟨#[]⟩] 9)):=⟨hF,hi3,ht,hlo,hlo2⟩;have hit:w₁.heap.size<(w₂.alloc (.cells #[.string ⟨#[]⟩] 9)).heap.size∧w₂.heap.size<(w₂.alloc (.cells #[.string ⟨#[]⟩] 9)).heap.size:=by constructor<;>simp<;>omega
 rw[Lc];have hne:w₁.heap.size≠w₂.heap.size:=by omega
 generalize (w₂.alloc (.cells #[.string ⟨#[]⟩] 9))=w₃ at hI hit ⊢;generalize w₁.heap.size=ib at*;generalize w₂.heap.size=tb at*;clear hF hi hi2 hi3 ht y;refine Ez (ad:=⟨ib,0,none⟩) (.inl ⟨rfl,_,rfl⟩) ab8 rfl (by decide) rfl rfl rfl (.inr (.inl rfl)) (fun w₄ y=>⟨_,iN (jM h hI y).i⟩) yY fun w₄ y=>?_
 replace hI:=jM h hI y
 replace hit:ib<w₄.heap.size∧tb<w₄.heap.size:=⟨aH hit.1 y.size,aH hit.2 y.size⟩
 have e5:(p9 5).dst=none:=rfl;rw[e5]
 walk_nrm
 have hA:=aside_setCell w₄ ⟨ib,0,none⟩ (.int .i64 k)
 replace hI:IK q ib tb (.int .i64 k) (.string ⟨#[]⟩) (w₄.setCell ⟨ib,0,none⟩ (.int .i64 k)):=
  ⟨A9 h _ _ (fun b hb=>hA.block b (by have:=hb.1;have:=hI.Zd;show b≠ib;omega)) (Nat.le_of_eq hA.size.symm) hA.os hI.b,Dc hI.i _,(hA.block tb (by show tb≠ib;omega)).trans hI.t,hI.Zd,hI.tlo⟩
 replace hit:ib<(w₄.setCell ⟨ib,0,none⟩ (.int .i64 k)).heap.size∧tb<(w₄.setCell ⟨ib,0,none⟩ (.int .i64 k)).heap.size:=by rw[hA.size];exact hit
 generalize (w₄.setCell ⟨ib,0,none⟩ (.int .i64 k))=w₅ at hI hit ⊢;clear hA y;refine Ez (ad:=⟨tb,0,none⟩) (.inr ⟨rfl,_,rfl⟩) ab9 rfl (by decide) rfl rfl rfl (.inr (.inr rfl)) (fun w₆ y=>⟨_,iN (jM h hI y).t⟩) yY fun w₆ y=>?_
 replace hI:=jM h hI y
 replace hit:ib<w₆.heap.size∧tb<w₆.heap.size:=⟨aH hit.1 y.size,aH hit.2 y.size⟩
 have e6:(p9 6).dst=none:=rfl;rw[e6]
 walk_nrm
 have hA:=aside_setCell w₆ ⟨tb,0,none⟩ (.string (q.Ts k))
 replace hI:IK q ib tb (.int .i64 k) (.string (q.Ts k)) (w₆.setCell ⟨tb,0,none⟩ (.string (q.Ts k))):=
  ⟨A9 h _ _ (fun b hb=>hA.block b (by have:=hb.1;have:=hI.tlo;show b≠tb;omega)) (Nat.le_of_eq hA.size.symm) hA.os hI.b,(hA.block ib (by show ib≠tb;omega)).trans hI.i,Dc hI.t _,hI.Zd,hI.tlo⟩
 replace hit:ib<(w₆.setCell ⟨tb,0,none⟩ (.string (q.Ts k))).heap.size∧tb<(w₆.setCell ⟨tb,0,none⟩ (.string (q.Ts k))).heap.size:=by rw[hA.size];exact hit
 generalize (w₆.setCell ⟨tb,0,none⟩ (.string (q.Ts k)))=agi at hI hit ⊢;clear hA y;refine au rfl (fun _=>stepG_region_end) fun Gs y=>?_
 replace hI:=jM h hI y
 replace hit:ib<Gs.heap.size∧tb<Gs.heap.size:=⟨aH hit.1 y.size,aH hit.2 y.size⟩
 clear y;refine au rfl (fun _=>stepG_seq) fun Gs y=>?_
 replace hI:=jM h hI y
 replace hit:ib<Gs.heap.size∧tb<Gs.heap.size:=⟨aH hit.1 y.size,aH hit.2 y.size⟩
 clear y;refine au rfl (fun _=>stepG_region) fun Gs y=>?_
 replace hI:=jM h hI y
 replace hit:ib<Gs.heap.size∧tb<Gs.heap.size:=⟨aH hit.1 y.size,aH hit.2 y.size⟩
 clear y;rw[r10];refine GE.stop fun w₂ y₂=>⟨rfl,fun hl=>⟨13,?_⟩⟩
 replace hI:=jM h hI y₂
 replace hit:ib<w₂.heap.size∧tb<w₂.heap.size:=⟨aH hit.1 y₂.size,aH hit.2 y₂.size⟩
 clear y₂;refine .inr ⟨rfl,fun w₃ MU=>?_⟩
 replace hI:=jM h hI MU.1
 replace hit:ib<w₃.heap.size∧tb<w₃.heap.size:=⟨aH hit.1 MU.1.size,aH hit.2 MU.1.size⟩
 refine goes_call (f:=12) YN rfl (by decide) rfl func12 (nm_add link) rfl ⟨⟨rfl,by simp⟩,?_⟩;have ej:q.c.n-(r+1)=k:=by show q.n-(r+1)=k;omega
 rw[ej];have hA:=fun(a₀:Act) (k₀:List Item)=>NR (c:=q.c) (S:=SX ib tb) (L:=link) (F:=fun w=>IK q ib tb (.int .i64 k) (.string (q.Ts k)) w∧ib<w.heap.size∧tb<w.heap.size) (j:=k) (Next:=q.c.NX r) (b₀:=b5) (a₀:=a₀) (ops₀:=q10) (i₀:=0) (rest₀:=[]) (k₀:=k₀) (cs:=q.cs) (mT:=3) Kv rfl
  (fun w w' y x=>⟨jM h x.1 y.1,aH x.2.1 y.1.size,aH x.2.2 y.1.size⟩)
  (fun w v x=>by
    have hA:=aside_setCell w (stA q.Wg) v;have hb:∀b,q.Bs b∨SX ib tb b→b≠q.Wg:=by
     rintro b (hb|hb|rfl|rfl)
     ·exact hb.2.1
     ·exact hb.elim
     ·have:=x.1.Zd;have:=h.wB;omega
     ·have:=x.1.tlo;have:=h.wB;omega
    have hsz:(w.setCell (stA q.Wg) v).heap.size=w.heap.size:=hA.size
    exact⟨SB h (fun b hb'=>hA.block b (hb b hb')) (Nat.le_of_eq hA.size.symm) hA.os x.1,by show ib<(w.setCell (stA q.Wg) v).heap.size;rw[hsz];exact x.2.1,by show tb<(w.setCell (stA q.Wg) v).heap.size;rw[hsz];exact x.2.2⟩)
 simp only[body_add,addFn,Option.getD_some]at hA
 walk_nrmf f12
 refine hA _ _ (fun w x hl=>?_) w₃ ⟨⟨hI,hit⟩,MU.2 hl⟩;have ed:(q10[0]?).bind (·.dst)=some 29:=rfl;rw[ed]
 walk_nrm
 rw[←hgv];exact XG h hk ih _ _ _ _ _ _ _ _ _ _ _ _ _ _ _ _ _ _ _ _ _ _ _ _ w x.1 x.2.1 x.2.2
theorem OW:∀(r k:Nat),k+r=q.n→∀(x0 x1 x5 x6 x7 x10 x11 x12 x13 x14 x15 x16 x17 x18 x19 x20 x21 x25 x26 x27 x28 x29 x30 x31 x32 x33:Value) (w:World),BK q w→GG (q.c.Gx r) (fun _=>False) (G (b5.at ⟨#[x0,x1,q.gv,.pointer (some ⟨q.rb,0,none⟩),.pointer (some ⟨q.cb,0,none⟩),x5,x6,x7,.pointer (some ⟨q.db,0,none⟩),.pointer (some ⟨q.Wg,0,none⟩),x10,x11,x12,x13,x14,x15,x16,x17,x18,x19,x20,x21,q.gv,.int .i64 q.n,.int .i64 k,x25,x26,x27,x28,x29,x30,x31,x32,x33],[]⟩ [.code LB,.inLoop LB,.inBlock 0,.code MW]) q.cs) w:=by
 intro r;induction r with
 |zero=>intro k hk x0 x1 x5 x6 x7 x10 x11 x12 x13 x14 x15 x16 x17 x18 x19 x20 x21 x25 x26 x27 x28 x29 x30 x31 x32 x33 w hF;exact OX h k (by omega) _ _ _ _ _ _ _ _ _ _ _ _ _ _ _ _ _ _ _ _ _ _ _ _ _ _ w hF
 |succ r ih=>intro k hk x0 x1 x5 x6 x7 x10 x11 x12 x13 x14 x15 x16 x17 x18 x19 x20 x21 x25 x26 x27 x28 x29 x30 x31 x32 x33 w hF;exact Lr h hk (ih (k+1) (by omega)) _ _ _ _ _ _ _ _ _ _ _ _ _ _ _ _ _ _ _ _ _ _ _ _ _ _ w hF
end
end Go.Proofs.YtheibfffilomcabGreatDoor
namespace Go.Ren
open Go.Conc Go.ConcN
open Go.ConcR (KK wgBlock WgAt stA smA rd wr Payload Aside2 DC0 Bk g_of_ofEvents)
set_option linter.unusedSimpArgs false
set_option linter.unusedVariables false
set_option linter.unusedSectionVars false
structure Alone (hi:Nat) (u:Trace):Prop where
 g:∀op∈u,op.g=0
 t:∀op∈u,∀x,op.act.touch?=some x→∃b,blk x.loc=some b∧b<hi
 m:∀op∈u,∀m,op.act= .mark m→xn m=true
theorem Alone.nil (hi:Nat):Alone hi #[]:=⟨fun op h=>by simp at h,fun op h=>by simp at h,fun op h=>by simp at h⟩
theorem Alone.app {hi hi':Nat} {u v:Trace} (h:Alone hi u) (h':Alone hi' v) (hh:hi≤hi'):Alone hi' (u++v):=by
 refine⟨fun op ho=>?_,fun op ho x hx=>?_,fun op ho=>?_⟩
 ·exact(Array.mem_append.1 ho).elim (h.g op) (h'.g op)
 ·rcases Array.mem_append.1 ho with ho|ho
  ·obtain⟨b,h1,h2⟩:=h.t op ho x hx;exact⟨b,h1,by omega⟩
  ·exact h'.t op ho x hx
 ·exact(Array.mem_append.1 ho).elim (h.m op) (h'.m op)
theorem NS {Bs S:Nat→Prop} {lo hi:Nat} {fn:FuncId} {pos:String} {es:Array Event} (hh:lo≤hi) (hB:∀b,Bs b∨S b→b<lo) (h:∀e∈es,Wo Bs S lo hi e):Alone hi (MemOp.ofEvents 0 fn pos es):=by
 have key:∀b,(S b∨(lo≤b∧b<hi)∨(Bs b∧True))→b<hi:=by
  rintro b (x|x|x)
  ·have:=hB b (.inr x);omega
  ·exact x.2
  ·have:=hB b (.inl x.1);omega
 refine⟨fun op ho=>?_,fun op ho x hx=>?_,fun op ho m hm=>?_⟩
 ·obtain⟨e,_,rfl⟩:=Go.Conc.mem_ofEvents ho;rfl
 ·obtain⟨e,he,rfl⟩:=Go.Conc.mem_ofEvents ho;obtain⟨loc,wr,sy⟩:=e;rcases h _ he with⟨a,h1,h2⟩|⟨r,h1,h2⟩|⟨m,h1,h2⟩
  ·simp only at h1;subst h1;simp[MemAct.ofEvent,MemAct.touch?]at hx;subst hx;exact⟨a.block,rfl,key _ (h2.imp id (Or.imp id fun y=>⟨y.1,trivial⟩))⟩
  ·simp only at h1;subst h1;have hx':x.loc= .obj r:=by cases wr<;>cases sy<;>simp[MemAct.ofEvent,MemAct.touch?]at hx<;>(subst hx;rfl)
   exact⟨r,by rw[hx'];rfl,key _ (h2.imp id (Or.imp id fun y=>⟨y.1,trivial⟩))⟩
  ·simp only at h1;subst h1;cases m<;>first|(simp[MemAct.ofEvent,MemAct.touch?]at hx;done)|cases h2
 ·obtain⟨e,he,rfl⟩:=Go.Conc.mem_ofEvents ho;obtain⟨loc,wr,sy⟩:=e;rcases h _ he with⟨a,h1,h2⟩|⟨r,h1,h2⟩|⟨m',h1,h2⟩
  ·simp only at h1;subst h1;simp[MemAct.ofEvent]at hm
  ·simp only at h1;subst h1;cases wr<;>cases sy<;>simp[MemAct.ofEvent]at hm
  ·simp only at h1;subst h1;simp only[MemAct.ofEvent,MemAct.mark.injEq]at hm;rw[←hm];exact h2
theorem J6 {P:Program} {Bs:Nat→Prop} {Stop:(Nat→Prop)→Goroutine→World→Prop}:∀{r:Rk} {S:Nat→Prop} {a:Goroutine} {w:World} (t:Trace),GT P true Bs Stop r S a w→(∀b,Bs b∨S b→b<w.heap.size)→
 ∃N a' w' S' u,runNT P N (solo a w) t=(.next (solo a' w'),t++u)∧Stop S' a' w'∧Alone w'.heap.size u∧w.heap.size≤w'.heap.size∧(∀b,b<w.heap.size→¬S b→w'.heap[b]? =w.heap[b]?)∧w'.os=w.os∧w'.output=w.output∧w'.tape=w.tape:=by
 intro r;induction r with
 |none=>intro S a w t h;exact h.elim
 |leaf=>intro S a w t h _;exact⟨0,a,w,S,#[],by simp[runNT],h w (.refl w),.nil _,Nat.le_refl _,fun _ _ _=>rfl,rfl,rfl,rfl⟩
 |node f ih=>
  intro S a w t h hB;obtain⟨g',w',es,hs,y,h'⟩:=h.2 w (.refl w);have hz:=y.size
  obtain⟨N,a2,w2,S2,u,r1,r2,r3,r4,r5,r6,r7,r8⟩:=ih _ (t++MemOp.ofEvents 0 a.frame.fn a.frame.place es) h' (by
   rintro b (x|x|x)
   ·have:=hB b (.inl x);omega
   ·have:=hB b (.inr x);omega
   ·exact x.2)
  refine⟨N+1,a2,w2,S2,MemOp.ofEvents 0 a.frame.fn a.frame.place es++u,?_,r2,(NS hz hB y.evs).app r3 r4,by omega,fun b hb hn=>?_,r6.trans y.os,r7.trans y.output,r8.trans y.tape⟩
  ·rw[runNT,stepT_solo h.1,runT_solo_go hs];simp only;rw[r1,Array.append_assoc]
  ·rw[r5 b (by omega) (fun x=>by rcases x with x|x;exact hn x;omega),y.keep b hb hn]
end Go.Ren
namespace Go.Proofs.YtheibfffilomcabGreatDoor
open Go.Ren Go.Conc Go.ConcN Go.RowKit Go.Conc.Lib Go.ConcR.Gen Go.ConcN.Gen Go.Proofs.Tryz
open Go.ConcR (KK wgBlock WgAt stA smA rd wr Payload Aside2 DC0 ofEvent_cell)
set_option linter.unusedSimpArgs false
set_option linter.unusedVariables false
section
variable {main:Bool} {Bs S:Nat→Prop} {Stop:(Nat→Prop)→Goroutine→World→Prop} {w:World} {b:Frame} {a:Act} {kk:List Item} {cs:List Frame} {ops:Array Oper} {i:Nat} {rest:List Nat} {o:Oper}
theorem yS {o₀:Obj} {v:World→Value} (ho:ops[i]? =some o) (hw:Region.wanted o (yielded ops a.tmps)=true) (hk:b.kind≠ .early) (hr:∀w,(execOp a.eval o).run prog w= .ok (.value (v w)) (w.alloc o₀)) (he:∀w,(execOp a.eval o).events prog w #[]= #[])
 (h:∀w₁ S',RY (fun b=>Bs b∨S b) w w₁→(∀b,S b→S' b)→S' w₁.heap.size→GE prog main Bs Stop S' (G (b.at (a.put o.dst (v w₁)) (.inRegion ops rest::kk)) cs) (w₁.alloc o₀)):
 GE prog main Bs Stop S (G (b.at a (.inRegion ops (i::rest)::kk)) cs) w:=by
 refine GE.step rfl fun w₁ q=>?_;have hl:listed prog b.fn a o w₁= #[]:=by unfold listed;rw[he,seen_none]
 refine⟨_,_,_,stepG_value ho hw hk (hr w₁),?_,h w₁ _ q (fun b hb=>.inl hb) (.inr ⟨bE _,by simp⟩)⟩;rw[hl];exact⟨fun x hx _=>h_ _ _ _ hx,by simp,rfl,rfl,rfl,fun e he=>by simp at he⟩
theorem UM {t:TypeId} {x y:Operand} {ad:Addr} {v:Value} (ho:ops[i]? =some o) (hw:Region.wanted o (yielded ops a.tmps)=true) (hk:b.kind≠ .early)
 (hr:∀w u,w.cell? ad=some u→w.frozen? ad=false→(execOp a.eval o).run prog w= .ok .skip (w.setCell ad v)∧(execOp a.eval o).events prog w #[]= #[⟨.cell ad,true,false⟩]) (hS:S ad.block) (hc:∀w₁,RY (fun b=>Bs b∨S b) w w₁→∃u,w₁.cell? ad=some u∧w₁.frozen? ad=false) (hq:(prog.funcs[b.fn]?).any (·.norace)=false)
 (h:∀w₁,RY (fun b=>Bs b∨S b) w w₁→GE prog main Bs Stop S (G (b.at (a.put o.dst undef) (.inRegion ops rest::kk)) cs) (w₁.setCell ad v)):
 GE prog main Bs Stop S (G (b.at a (.inRegion ops (i::rest)::kk)) cs) w:=by
 refine GE.step rfl fun w₁ q=>?_;obtain⟨u,hu,hz⟩:=hc w₁ q;obtain⟨h1,h2⟩:=hr w₁ u hu hz;have hl:listed prog b.fn a o w₁= #[⟨.cell ad,true,false⟩]:=by unfold listed;rw[h2,Go.Conc.seen_eq hq (by simp)]
 have hA:=aside_setCell w₁ ad v;have eS:grown S w₁ (w₁.setCell ad v)=S:=yU hA.size;refine⟨_,_,_,stepG_none ho hw hk h1,?_,by rw[eS];exact h w₁ q⟩;rw[hl];refine⟨fun x hx hn=>hA.block x fun e=>hn (e▸hS),Nat.le_of_eq hA.size.symm,hA.tape,hA.os,hA.output,fun e he=>?_⟩;rw[Array.mem_singleton]at he;subst he;exact .inl ⟨ad,rfl,.inl hS⟩
end
noncomputable def z0:Array Oper:=match mI with| .seq (.region _ ops _) _=>ops|_=>#[]
noncomputable def z1:Array Oper:=match mI with| .seq _ (.seq (.seq (.region _ ops _) _) _)=>ops|_=>#[]
noncomputable def cA:Code:=match mI with| .seq _ (.seq (.seq _ (.cond _ c _)) _)=>c|_=>.skip
noncomputable def z3:Array Oper:=match mI with| .seq _ (.seq _ (.seq (.seq (.region _ ops _) _) _))=>ops|_=>#[]
noncomputable def cB:Code:=match mI with| .seq _ (.seq _ (.seq (.seq _ (.cond _ c _)) _))=>c|_=>.skip
noncomputable def z5:Array Oper:=match mI with| .seq _ (.seq _ (.seq _ (.seq (.region _ ops _) _)))=>ops|_=>#[]
noncomputable def z6:Array Oper:=match mI with| .seq _ (.seq _ (.seq _ (.seq _ (.seq (.region _ ops _) _))))=>ops|_=>#[]
noncomputable def z7:Array Oper:=match mI with| .seq _ (.seq _ (.seq _ (.seq _ (.seq _ (.seq (.seq (.region _ ops _) _) _)))))=>ops|_=>#[]
theorem Oa:mI= .seq (.region 0 z0 false) (.seq (.seq (.region 1 z1 false) (.cond (.tmp 15) cA .skip)) (.seq (.seq (.region 3 z3 false) (.cond (.tmp 18) cB .skip)) (.seq (.region 5 z5 false) (.seq (.region 6 z6 false) (.seq (.seq (.region 7 z7 false) (.block 0 (.loop LB))) MW))))):=rfl
theorem s0:List.range z0.size=[0,1,2,3]:=rfl
theorem s1:List.range z1.size=[0,1,2,3]:=rfl
theorem s3:List.range z3.size=[0,1,2]:=rfl
theorem s5:List.range z5.size=[0,1,2,3,4]:=rfl
theorem s6:List.range z6.size=[0]:=rfl
theorem s7:List.range z7.size=[0,1,2]:=rfl
theorem adp:z0[0]? =some {dst:=some 3,op:=.box 3 (.tmp 0),type:=0,pos:= "slate.go:104",after:=#[],guard:=none}:=rfl
theorem adq:z0[1]? =some {dst:=some 4,op:=.box 3 (.tmp 1),type:=0,pos:= "slate.go:104",after:=#[],guard:=none}:=rfl
theorem adr:z0[2]? =some {dst:=some 6,op:=.assign (.const (.slice none 0 0)),type:=24,pos:= "slate.go:104",after:=#[],guard:=none}:=rfl
theorem ads:z0[3]? =some {dst:=some 7,op:=.assign (.const (.int .i64 0)),type:=25,pos:= "slate.go:104",after:=#[{on:=2,ground:=.chain}],guard:=none}:=rfl
theorem adt:z1[0]? =some {dst:=some 12,op:=.load 3 (.tmp 3),type:=3,pos:= "slate.go:105",after:=#[],guard:=none}:=rfl
theorem adu:z1[1]? =some {dst:=some 13,op:=.load 3 (.tmp 4),type:=3,pos:= "slate.go:105",after:=#[],guard:=none}:=rfl
theorem adv:z1[2]? =some {dst:=some 14,op:=.call {callee:=.value (.func 11),args:=#[.tmp 12,.tmp 13],argTypes:=#[3,3]},type:=4,pos:= "slate.go:105",after:=#[{on:=0,ground:=.data},{on:=1,ground:=.data}],guard:=none}:=rfl
theorem adw:z1[3]? =some {dst:=some 15,op:=.unOp .not 4 (.tmp 14),type:=4,pos:= "slate.go:105",after:=#[{on:=2,ground:=.data}],guard:=none}:=rfl
theorem adx:z3[0]? =some {dst:=some 16,op:=.move (.tmp 2),type:=24,pos:= "slate.go:108",after:=#[],guard:=none}:=rfl
theorem ady:z3[1]? =some {dst:=some 17,op:=.call {callee:=.builtin .len,args:=#[.tmp 16],argTypes:=#[24]},type:=3,pos:= "slate.go:108",after:=#[{on:=0,ground:=.data}],guard:=none}:=rfl
theorem adz:z3[2]? =some {dst:=some 18,op:=.binOp .gtr 3 (.tmp 17) (.const (.int .i64 16)) 3,type:=4,pos:= "slate.go:108",after:=#[{on:=1,ground:=.data}],guard:=none}:=rfl
theorem adA:z5[0]? =some {dst:=some 19,op:=.move (.tmp 2),type:=24,pos:= "slate.go:111",after:=#[],guard:=none}:=rfl
theorem adB:z5[1]? =some {dst:=some 20,op:=.call {callee:=.builtin .len,args:=#[.tmp 19],argTypes:=#[24]},type:=3,pos:= "slate.go:111",after:=#[{on:=0,ground:=.data}],guard:=none}:=rfl
theorem adC:z5[2]? =some {dst:=some 21,op:=.makeSlice 24 (.tmp 20) (.tmp 20),type:=24,pos:= "slate.go:111",after:=#[{on:=1,ground:=.data},{on:=1,ground:=.data}],guard:=none}:=rfl
theorem adD:z5[3]? =some {dst:=some 8,op:=.alloc 24,type:=0,pos:= "slate.go:111",after:=#[],guard:=none}:=rfl
theorem adE:z5[4]? =some {dst:=none,op:=.store 24 (.tmp 8) (.tmp 21),type:=0,pos:= "slate.go:111",after:=#[{on:=3,ground:=.data},{on:=2,ground:=.data},{on:=0,ground:=.phase},{on:=1,ground:=.phase},{on:=2,ground:=.phase},{on:=3,ground:=.phase}],guard:=none}:=rfl
theorem adF:z6[0]? =some {dst:=some 9,op:=.alloc 47,type:=0,pos:= "slate.go:112",after:=#[],guard:=none}:=rfl
theorem adG:z7[0]? =some {dst:=some 22,op:=.move (.tmp 2),type:=24,pos:= "slate.go:113",after:=#[],guard:=none}:=rfl
theorem adH:z7[1]? =some {dst:=some 23,op:=.call {callee:=.builtin .len,args:=#[.tmp 22],argTypes:=#[24]},type:=3,pos:= "slate.go:113",after:=#[{on:=0,ground:=.data}],guard:=none}:=rfl
theorem adI:z7[2]? =some {dst:=some 24,op:=.move (.const (.int .i64 0)),type:=3,pos:= "slate.go:113",after:=#[],guard:=none}:=rfl
theorem acQ:(f11.name== "runtime.NumGoroutine")=false:=by kernel_rfl
section
variable {main:Bool} {Bs S:Nat→Prop} {Stop:(Nat→Prop)→Goroutine→World→Prop} {w:World}
theorem K9 {b:Frame} {a:Act} {kk:List Item} {cs:List Frame} {rest:List Nat} (hk:b.kind≠ .early) {rows aa:Nat} (hr:1≤rows∧rows≤12) (hc:1≤aa∧aa≤40) (h12:a.eval (.tmp 12)= .int .i64 rows) (h13:a.eval (.tmp 13)= .int .i64 aa)
 (h:∀w₁,RY (fun b=>Bs b∨S b) w w₁→GE prog main Bs Stop S (G (b.at (a.put (some 14) (.bool true)) (.inRegion z1 rest::kk)) cs) w₁):GE prog main Bs Stop S (G (b.at a (.inRegion z1 (2::rest)::kk)) cs) w:=by
 have r1:(1:Int)≤(rows:Int):=by omega
 have r2:(rows:Int)≤12:=by omega
 have c1:(1:Int)≤(aa:Int):=by omega
 have c2:(aa:Int)≤40:=by omega
 have hF:∀{w₁:World},RY (fun b=>Bs b∨S b) w w₁→RY (fun b=>Bs b∨S b) w w₁:=id;have hF:=RY.refl (K:=fun b=>Bs b∨S b) w;have rl:∀{w₁ w₂:World},RY (fun b=>Bs b∨S b) w w₁→RY (fun b=>Bs b∨S b) w₁ w₂→RY (fun b=>Bs b∨S b) w w₂:=fun x y=>x.trans y;refine GE.uJ (m:=25) ?_
 u_in rl hF
 refine goes_call adv rfl hk rfl func11 acQ rfl ⟨⟨rfl,rfl⟩,?_⟩;simp only[List.map_toArray,List.map_cons,List.map_nil,h12,h13]
 walk_nrmf f11
 u_c stepG_seq rl hF;u_reg rl hF;u_op rl hF;u_c stepG_region_end rl hF;u_c stepG_seq rl hF;u_reg rl hF
 iterate 15 u_op rl hF
 u_c stepG_region_end rl hF
 u_c stepG_ret' rl hF
 u_leave1 func11 rl hF
 exact Go.Conc.Goes.stop fun w₁ y=>h w₁ (rl hF y)
end
end Go.Proofs.YtheibfffilomcabGreatDoor
namespace Go.Proofs.YtheibfffilomcabGreatDoor
open Go.Ren Go.Conc Go.ConcN Go.RowKit Go.Conc.Lib Go.ConcR.Gen Go.ConcN.Gen Go.Proofs.Tryz
open Go.ConcR (KK wgBlock WgAt stA smA rd wr Payload Aside2 DC0 ofEvent_cell)
set_option linter.unusedSimpArgs false
set_option linter.unusedVariables false
structure FB (N0:Nat) (F:List (Nat × Obj)) (S:Nat→Prop) (w:World):Prop where
 own:∀x∈F,S x.1∧w.heap[x.1]? =some x.2∧N0≤x.1
 ord:F.Pairwise fun x y=>x.1≠y.1
 lo:N0≤w.heap.size
section
variable {N0:Nat} {F:List (Nat × Obj)} {Bs S S':Nat→Prop} {w w₁:World}
theorem FB.rely (h:FB N0 F S w) (y:RY (fun b=>Bs b∨S b) w w₁):FB N0 F S w₁:=
 ⟨fun x hx=>⟨(h.own x hx).1,(y.keep x.1 (.inr (h.own x hx).1)).trans (h.own x hx).2.1,(h.own x hx).2.2⟩,h.ord,fA h.lo y.size⟩
theorem FB.lt (h:FB N0 F S w) {x:Nat × Obj} (hx:x∈F):x.1<w.heap.size:=(kP.1 (h.own x hx).2.1).1
theorem FB.new (h:FB N0 F S w) (hS:∀b,S b→S' b) (hn:S' w.heap.size) (o:Obj):FB N0 ((w.heap.size,o)::F) S' (w.alloc o):=by
 refine⟨fun x hx=>?_,List.pairwise_cons.2 ⟨fun x hx=>Nat.ne_of_gt (h.lt hx),h.ord⟩,by simp;exact Nat.le_succ_of_le h.lo⟩;rcases di.1 hx with rfl|hx
 ·exact⟨hn,bJ _ _,h.lo⟩
 ·obtain⟨h1,h2,h3⟩:=h.own x hx;exact⟨hS _ h1,(h_ _ _ _ (h.lt hx)).trans h2,h3⟩
theorem FB.put {b:Nat} {t:TypeId} {u:Value} (h:FB N0 ((b,.cells #[u] t)::F) S w) (v:Value):FB N0 ((b,.cells #[v] t)::F) S (w.setCell ⟨b,0,none⟩ v):=by
 have hA:=aside_setCell w ⟨b,0,none⟩ v;obtain⟨h1,h2⟩:=List.pairwise_cons.1 h.ord;refine⟨fun x hx=>?_,List.pairwise_cons.2 ⟨h1,h2⟩,by rw[hA.size];exact h.lo⟩;rcases di.1 hx with rfl|hx
 ·obtain⟨k1,k2,k3⟩:=h.own (b,.cells #[u] t) (by simp);exact⟨k1,Dc k2 v,k3⟩
 ·obtain⟨k1,k2,k3⟩:=h.own x (by simp[hx]);exact⟨k1,(hA.block x.1 (fun e=>h1 x hx e.symm)).trans k2,k3⟩
end
theorem OH:(prog.info? 9).map (fun i=>(i.zero,i.size,i.bytes))=some (some (.string ⟨#[]⟩),1,16):=by kernel_rfl
theorem run_mk {a:Act} {n:Nat} (hn:n≤16) (h20:a.eval (.tmp 20)= .int .i64 n) (w:World) (o:Oper) (ho:o.op= .makeSlice 24 (.tmp 20) (.tmp 20)):
 (execOp a.eval o).run prog w= .ok (.value (.slice (some ⟨w.heap.size,0,none⟩) n n)) (w.alloc (.cells (madeCells #[.string ⟨#[]⟩] n) 9))∧(execOp a.eval o).events prog w #[]= #[]:=by
 obtain⟨i,h1,h2,h3,h4⟩:=info_parts OH;have r:=run_make (P:=prog) w 24 9 i _ underlying24 h1 h2 .i64 .i64 (n:Int) (n:Int) (by omega) (by omega) (by rw[h4];omega) (by omega);have e:=events_make (P:=prog) w 24 9 i _ underlying24 h1 h2 .i64 .i64 (n:Int) (n:Int) (by omega) (by omega) (by rw[h4];omega) (by omega) (by rw[h4];simp;omega) #[];rw[h3]at r;simp only[wQ,Nat.mul_one,Value.cells]at r;unfold execOp;simp only[ho,h20];exact⟨by simp[go_sem,r],by simp[go_sem,r,e]⟩
noncomputable def TL6:Code:=.seq (.seq (.region 7 z7 false) (.block 0 (.loop LB))) MW
def JO (N0:Nat) (F0:List (Nat × Obj)) (rows aa n:Nat) (gv:Value) (cs:List Frame) (S:Nat→Prop) (g:Goroutine) (w:World):Prop:=
 ∃(rb cb C db:Nat) (x0 x1 x5 x6 x7 x9 x10 x11 x12 x13 x14 x15 x16 x17 x18 x19 x20 x21 x22 x23 x24 x25 x26 x27 x28 x29 x30 x31 x32 x33:Value),g=G (b5.at ⟨#[x0,x1,gv,.pointer (some ⟨rb,0,none⟩),.pointer (some ⟨cb,0,none⟩),x5,x6,x7,.pointer (some ⟨db,0,none⟩),x9,x10,x11,x12,x13,x14,x15,x16,x17,x18,x19,x20,x21,x22,x23,x24,x25,x26,x27,x28,x29,x30,x31,x32,x33],[]⟩ [.inRegion z6 [0],.code TL6]) cs∧
  FB N0 ((db,.cells #[.slice (some ⟨C,0,none⟩) n n] 24)::(C,.cells (madeCells #[.string ⟨#[]⟩] n) 9)::(cb,.cells #[.int .i64 aa] 3)::(rb,.cells #[.int .i64 rows] 3)::F0) S w
section
variable {Bs S:Nat→Prop}
theorem Qg {rows aa n cap:Nat} {ao:Option Addr} {cs:List Frame} (hr:1≤rows∧rows≤12) (hc:1≤aa∧aa≤40) (hn:n≤16) {w:World} {N0:Nat} {F0:List (Nat × Obj)} (hF:FB N0 F0 S w):
 GE prog true Bs (JO N0 F0 rows aa n (.slice ao n cap) cs) S (G (b5.at ⟨#[.int .i64 rows,.int .i64 aa,.slice ao n cap,undef,undef,undef,undef,undef,undef,undef,undef,undef,undef,undef,undef,undef,undef,undef,undef,undef,undef,undef,undef,undef,undef,undef,undef,undef,undef,undef,undef,undef,undef,undef],[]⟩ [.code mI]) cs) w:=by
 have hnz:¬((16:Int)<(n:Int)):=by omega
 rw[Oa];refine au rfl (fun _=>stepG_seq) fun w₁ y=>?_
 replace hF:=hF.rely y
 clear y;refine au rfl (fun _=>stepG_region) fun w₁ y=>?_
 replace hF:=hF.rely y
 clear y;rw[s0];refine yS (o₀:=.cells #[.int .i64 rows] 3) (v:=fun w=>.pointer (some ⟨w.heap.size,0,none⟩)) adp rfl (by decide) (fun w=>by unfold execOp;simp[Act.eval,go_sem]) (fun w=>by unfold execOp;simp[Act.eval,go_sem]) fun w₁ S y hS hnw=>?_
 replace hF:=(hF.rely y).new hS hnw (.cells #[.int .i64 rows] 3)
 clear hS hnw y
 walk_nrm
 generalize w₁.heap.size=rb at hF ⊢;generalize (w₁.alloc (.cells #[.int .i64 rows] 3))=w at hF ⊢;refine yS (o₀:=.cells #[.int .i64 aa] 3) (v:=fun w=>.pointer (some ⟨w.heap.size,0,none⟩)) adq rfl (by decide) (fun w=>by unfold execOp;simp[Act.eval,go_sem]) (fun w=>by unfold execOp;simp[Act.eval,go_sem]) fun w₁ S y hS hnw=>?_
 replace hF:=(hF.rely y).new hS hnw (.cells #[.int .i64 aa] 3)
 clear hS hnw y
 walk_nrm
 generalize w₁.heap.size=cb at hF ⊢;generalize (w₁.alloc (.cells #[.int .i64 aa] 3))=w at hF ⊢;refine lT adr rfl (by decide) (.inr rfl) rfl fun w₁ y=>?_
 replace hF:=hF.rely y
 clear y
 walk_nrm
 refine lT ads rfl (by decide) (.inr rfl) rfl fun w₁ y=>?_
 replace hF:=hF.rely y
 clear y
 walk_nrm
 refine au rfl (fun _=>stepG_region_end) fun w₁ y=>?_
 replace hF:=hF.rely y
 clear y;refine au rfl (fun _=>stepG_seq) fun w₁ y=>?_
 replace hF:=hF.rely y
 clear y;refine au rfl (fun _=>stepG_seq) fun w₁ y=>?_
 replace hF:=hF.rely y
 clear y;refine au rfl (fun _=>stepG_region) fun w₁ y=>?_
 replace hF:=hF.rely y
 clear y;rw[s1];refine GE.read (ad:=⟨rb,0,none⟩) rfl (.inr (hF.own _ (List.mem_cons_of_mem _ (List.mem_cons_self))).1) fun w₁ y=>⟨jQ (.inl rfl) adt rfl (by decide) rfl rfl (iN ((hF.rely y).own _ (List.mem_cons_of_mem _ (List.mem_cons_self))).2.1).1 yY,?_⟩
 replace hF:=hF.rely y
 clear y
 walk_nrm
 refine GE.read (ad:=⟨cb,0,none⟩) rfl (.inr (hF.own _ (List.mem_cons_self)).1) fun w₁ y=>⟨jQ (.inl rfl) adu rfl (by decide) rfl rfl (iN ((hF.rely y).own _ (List.mem_cons_self)).2.1).1 yY,?_⟩
 replace hF:=hF.rely y
 clear y
 walk_nrm
 refine K9 (by decide) hr hc rfl rfl fun w₁ y=>?_
 replace hF:=hF.rely y
 clear y
 walk_nrm
 refine nV (v:=.bool false) adw rfl (by decide) (fun w=>by unfold execOp;simp[Act.eval,go_sem]) (fun w=>by unfold execOp;simp[Act.eval,go_sem]) fun w₁ y=>?_
 replace hF:=hF.rely y
 clear y
 walk_nrm
 refine au rfl (fun _=>stepG_region_end) fun w₁ y=>?_
 replace hF:=hF.rely y
 clear y;refine au rfl (fun _=>stepG_cond (t:=false) rfl) fun w₁ y=>?_
 replace hF:=hF.rely y
 clear y;simp only[Bool.false_eq_true, ↓reduceIte];refine au rfl (fun _=>stepG_skip) fun w₁ y=>?_
 replace hF:=hF.rely y
 clear y;refine au rfl (fun _=>stepG_seq) fun w₁ y=>?_
 replace hF:=hF.rely y
 clear y;refine au rfl (fun _=>stepG_seq) fun w₁ y=>?_
 replace hF:=hF.rely y
 clear y;refine au rfl (fun _=>stepG_region) fun w₁ y=>?_
 replace hF:=hF.rely y
 clear y;rw[s3];refine lT adx rfl (by decide) (.inl rfl) rfl fun w₁ y=>?_
 replace hF:=hF.rely y
 clear y
 walk_nrm
 refine nV (v:=.int .i64 n) ady rfl (by decide) (fun w=>by unfold execOp;simp[Act.eval,go_sem]) (fun w=>by unfold execOp;simp[Act.eval,go_sem]) fun w₁ y=>?_
 replace hF:=hF.rely y
 clear y
 walk_nrm
 refine nV (v:=.bool false) adz rfl (by decide) (fun w=>by unfold execOp;simp[Act.eval,go_sem,hnz]) (fun w=>by unfold execOp;simp[Act.eval,go_sem,hnz]) fun w₁ y=>?_
 replace hF:=hF.rely y
 clear y
 walk_nrm
 refine au rfl (fun _=>stepG_region_end) fun w₁ y=>?_
 replace hF:=hF.rely y
 clear y;refine au rfl (fun _=>stepG_cond (t:=false) rfl) fun w₁ y=>?_
 replace hF:=hF.rely y
 clear y;simp only[Bool.false_eq_true, ↓reduceIte];refine au rfl (fun _=>stepG_skip) fun w₁ y=>?_
 replace hF:=hF.rely y
 clear y;refine au rfl (fun _=>stepG_seq) fun w₁ y=>?_
 replace hF:=hF.rely y
 clear y;refine au rfl (fun _=>stepG_region) fun w₁ y=>?_
 replace hF:=hF.rely y
 clear y;rw[s5];refine lT adA rfl (by decide) (.inl rfl) rfl fun w₁ y=>?_
 replace hF:=hF.rely y
 clear y
 walk_nrm
 refine nV (v:=.int .i64 n) adB rfl (by decide) (fun w=>by unfold execOp;simp[Act.eval,go_sem]) (fun w=>by unfold execOp;simp[Act.eval,go_sem]) fun w₁ y=>?_
 replace hF:=hF.rely y
 clear y
 walk_nrm
 refine yS (o₀:=.cells (madeCells #[.string ⟨#[]⟩] n) 9) (v:=fun w=>.slice (some ⟨w.heap.size,0,none⟩) n n) adC rfl (by decide) (fun w=>(run_mk hn rfl w _ rfl).1) (fun w=>(run_mk hn rfl w _ rfl).2) fun w₁ S y hS hnw=>?_
 replace hF:=(hF.rely y).new hS hnw (.cells (madeCells #[.string ⟨#[]⟩] n) 9)
 clear hS hnw y
 walk_nrm
 generalize w₁.heap.size=C at hF ⊢;generalize (w₁.alloc (.cells (madeCells #[.string ⟨#[]⟩] n) 9))=w at hF ⊢;refine yS (o₀:=.cells #[.slice none 0 0] 24) (v:=fun w=>.pointer (some ⟨w.heap.size,0,none⟩)) adD rfl (by decide) (fun w=>by unfold execOp;simp[Act.eval,go_sem]) (fun w=>by unfold execOp;simp[Act.eval,go_sem]) fun w₁ S y hS hnw=>?_
 replace hF:=(hF.rely y).new hS hnw (.cells #[.slice none 0 0] 24)
 clear hS hnw y
 walk_nrm
 generalize w₁.heap.size=db at hF ⊢;generalize (w₁.alloc (.cells #[.slice none 0 0] 24))=w at hF ⊢;refine UM (ad:=⟨db,0,none⟩) (v:=.slice (some ⟨C,0,none⟩) n n) (t:=24) (x:=.tmp 8) (y:=.tmp 21) adE rfl (by decide) (fun w u hu hz=>?_) (hF.own _ List.mem_cons_self).1 (fun w₁ y=>⟨_,iN ((hF.rely y).own _ List.mem_cons_self).2.1⟩) yY fun w₁ y=>?_
 ·have e:=events_store prog w #[] ⟨db,0,none⟩ (.slice (some ⟨C,0,none⟩) n n) .plain rfl;constructor
  ·unfold execOp;simp[Act.eval,go_sem,stored,hu,hz]
  ·unfold execOp;simp[Act.eval,go_sem,e,storedEv,hu,hz]
 replace hF:=(hF.rely y).put (.slice (some ⟨C,0,none⟩) n n)
 clear y
 walk_nrm
 generalize (w₁.setCell ⟨db,0,none⟩ (.slice (some ⟨C,0,none⟩) n n))=w at hF ⊢;refine au rfl (fun _=>stepG_region_end) fun w₁ y=>?_
 replace hF:=hF.rely y
 clear y;refine au rfl (fun _=>stepG_seq) fun w₁ y=>?_
 replace hF:=hF.rely y
 clear y;refine au rfl (fun _=>stepG_region) fun w₁ y=>?_
 replace hF:=hF.rely y
 clear y;rw[s6];refine GE.stop fun w₁ y=>⟨rb,cb,C,db,_,_,_,_,_,_,_,_,_,_,_,_,_,_,_,_,_,_,_,_,_,_,_,_,_,_,_,_,_,_,rfl,hF.rely y⟩
end
end Go.Proofs.YtheibfffilomcabGreatDoor
