import Derived.Test.YtheibfffilomcabGreatDoorEvnU
import Derived.Test.YtheibfffilomcabGreatDoorK10U
set_option linter.all false
set_option maxRecDepth 100000
set_option maxHeartbeats 8000000
namespace Go.Proofs.YtheibfffilomcabGreatDoor
open Go.Ren Go.Conc Go.ConcN Go.RowKit Go.Conc.Lib Go.ConcR.Gen Go.ConcN.Gen Go.Proofs.Tryz
variable {w:World} {b:Nat} {u:Value} {t:TypeId}
open Go.ConcR (KK wgBlock WgAt stA smA rd wr Payload Aside2 DC0 ofEvent_cell)
set_option linter.unusedSimpArgs false
set_option linter.unusedVariables false
theorem yT{main:Bool}{R:World→World→Prop}{Stop:Goroutine→World→Prop}(tr:∀a b c,R a b→R b c→R a c){m:Nat}{g g':Goroutine}(hr:g.status= .running)(hs:∀w,stepG prog main g w= .go g' w #[])(h:Go.Conc.Goes prog main R DC0 Stop m g' w):Go.Conc.Goes prog main R DC0 Stop (m+1) g w:=.inr ⟨hr,fun w₁ y=>by rw[hs w₁];exact⟨⟨rfl,rfl⟩,h.rely tr y⟩⟩
structure IK (q:WP) (ib tb:Nat) (vi vt:Value) (w:World):Prop where
 b:BK q w
 i:w.heap[ib]? =some (.cells #[vi] 3)
 t:w.heap[tb]? =some (.cells #[vt] 9)
 Y_:q.B0≤ib
 GG:q.B0≤tb
def SX (ib tb:Nat):Nat→Prop:=fun b=>False∨(b=ib∨b=tb)
section
variable {q:WP} {ib tb:Nat} {vi vt:Value} {w w':World}
theorem Sy(h:q.Ok)(hk:∀b,q.Bs b∨SX ib tb b→w'.heap[b]? =w.heap[b]?)(hz:w.heap.size≤w'.heap.size)(ho:w'.os=w.os)(x:IK q ib tb vi vt w):IK q ib tb vi vt w':=
 ⟨A8 h w w' (fun b hb=>hk b (.inl hb)) hz ho x.b,(hk ib (.inr (.inr (.inl rfl)))).trans x.i,(hk tb (.inr (.inr (.inr rfl)))).trans x.t,x.Y_,x.GG⟩
theorem jM(h:q.Ok)(x:IK q ib tb vi vt w)(y:RY (fun b=>q.Bs b∨SX ib tb b) w w'):IK q ib tb vi vt w':=Sy h y.keep y.size y.os x
end
theorem iN(h:w.heap[b]? =some (.cells #[u] t)):w.cell? ⟨b,0,none⟩=some u∧w.frozen? ⟨b,0,none⟩=false:=⟨by simp[World.cell?,h],by simp[World.frozen?,h]⟩
theorem Da(h:w.heap[b]? =some (.cells #[u] t))(v:Value):(w.setCell ⟨b,0,none⟩ v).heap[b]? =some (.cells #[v] t):=by rw[setCell_eq_setRow w b 0 #[u] t (0,0) _ h,setRow_heap w b _ _ t _ h];simp
theorem YK:q11[0]? =some {dst:=some 30,op:=.makeFunc (.func 13) #[] #[.tmp 9,.tmp 3,.tmp 4,.tmp 11,.tmp 8,.tmp 10],type:=1,pos:= "slate.go:115",after:=#[],guard:=none}:=rfl
theorem YL:q11[1]? =some {dst:=none,op:=.go {callee:=.value (.tmp 30),args:=#[],argTypes:=#[]},type:=0,pos:= "slate.go:115",after:=#[{on:=0,ground:=.data}],guard:=none}:=rfl
section
variable {main:Bool} {w:World} {b:Frame} {a:Act} {kk:List Item} {cs:List Frame} {ops:Array Oper} {i:Nat} {rest:List Nat} {o:Oper}
theorem YM:q12[0]? =some {dst:=some 31,op:=.binOp .add 3 (.tmp 24) (.const (.int .i64 1)) 3,type:=3,pos:= "slate.go:113",after:=#[],guard:=none}:=rfl
theorem YN:q12[1]? =some {dst:=some 24,op:=.move (.tmp 31),type:=3,pos:= "slate.go:113",after:=#[{on:=0,ground:=.data}],guard:=none}:=rfl
theorem aag{q:WP}(h:q.Ok){k:Nat}(hk:k<q.n):IntKind.i64.wrap ((k:Int)+1)=(k:Int)+1:=by have:=h.n16;rw[IntKind.wrap_i64];omega
theorem Rl{fn:Fn}{caps:Array Operand}{cv:Array Value}(ho:ops[i]? =some o)(hw:Region.wanted o (yielded ops a.tmps)=true)(hk:b.kind≠ .early)(hop:o.op= .makeFunc fn #[] caps)(hc:caps.map a.eval=cv):
 stepG prog main (G (b.at a (.inRegion ops (i::rest)::kk)) cs) w= .go (G (b.at (a.put o.dst (.func fn #[] cv)) (.inRegion ops rest::kk)) cs) w #[]:=by
 have hr:(execOp a.eval o).run prog w= .ok (.value (.func fn #[] cv)) w:=by unfold execOp;simp only[hop,hc,Array.map_empty];rfl
 have hl:listed prog b.fn a o w= #[]:=by unfold listed execOp;simp only[hop,hc,Array.map_empty];exact seen_none _ _
 rw[stepG_value ho hw hk hr,hl]
theorem go_step{f:FuncId}{cv:Array Value}{t:Tmp}(ho:ops[i]? =some o)(hw:Region.wanted o (yielded ops a.tmps)=true)(hk:b.kind≠ .early)(hop:o.op= .go {callee:=.value (.tmp t),args:=#[],argTypes:=#[]})(hx:a.tmps[t]?.getD undef= .func (.func f) #[] cv):
 stepG prog main (G (b.at a (.inRegion ops (i::rest)::kk)) cs) w= .spawn (G (b.at (a.put o.dst undef) (.inRegion ops rest::kk)) cs) (born prog {target:=.fn (.func f) cv,args:=#[]}) w #[]:=by
 have hr:(execOp a.eval o).run prog w= .ok (.spawn {target:=.fn (.func f) cv,args:=#[]}) w:=by unfold execOp;simp only[hop];simp[go_sem,hx,Deferred.ofValue]
 have hl:listed prog b.fn a o w= #[]:=by unfold listed execOp;simp only[hop];simp[go_sem,hx,Deferred.ofValue];exact seen_none _ _
 rw[stepG_spawn (f:=.func f) (c:=cv) ho hw hk hr rfl,hl]
end
section
variable {q:WP}
theorem XB(h:q.Ok){r k ib tb:Nat}(hk:k<q.n)(ih:∀(x0 x1 x5 x6 x7 x10 x11 x12 x13 x14 x15 x16 x17 x18 x19 x20 x21 x25 x26 x27 x28 x29 x30 x31 x32 x33:Value) (w:World),BK q w→GE prog true q.Bs (q.c.Gv r) (fun _=>False) (G (b5.at ⟨#[x0,x1,q.gv,.pointer (some ⟨q.rb,0,none⟩),.pointer (some ⟨q.cb,0,none⟩),x5,x6,x7,.pointer (some ⟨q.db,0,none⟩),.pointer (some ⟨q.Wg,0,none⟩),x10,x11,x12,x13,x14,x15,x16,x17,x18,x19,x20,x21,q.gv,.int .i64 q.n,.int .i64 ((k+1:Nat):Int),x25,x26,x27,x28,x29,x30,x31,x32,x33],[]⟩ [.code LB,.inLoop LB,.inBlock 0,.code MR]) q.cs) w)(x0 x1 x5 x6 x7 x12 x13 x14 x15 x16 x17 x18 x19 x20 x21 x25 x26 x27 x28 x29 x30 x31 x32 x33:Value)(w:World)(hF:IK q ib tb (.int .i64 k) (.string (q.Ts k)) w)(hib:ib<w.heap.size)(htb:tb<w.heap.size):
 Go.Conc.Goes prog true (q.c.RL (SX ib tb)) q.c.DS (q.c.XGo (SX ib tb) k (q.c.NX r)) 3 (G (b5.at ⟨#[x0,x1,q.gv,.pointer (some ⟨q.rb,0,none⟩),.pointer (some ⟨q.cb,0,none⟩),x5,x6,x7,.pointer (some ⟨q.db,0,none⟩),.pointer (some ⟨q.Wg,0,none⟩),.pointer (some ⟨ib,0,none⟩),.pointer (some ⟨tb,0,none⟩),x12,x13,x14,x15,x16,x17,x18,x19,x20,x21,q.gv,.int .i64 q.n,.int .i64 k,x25,x26,x27,x28,x29,x30,x31,x32,x33],[]⟩ (.inRegion q10 []::[.code (.region 11 q11 false),.inBlock 1,.code (.region 12 q12 false),.inLoop LB,.inBlock 0,.code MR])) q.cs) w:=by
 refine fP (c:=q.c) ?_;refine yT dR.RL.trans rfl (fun _=>stepG_region_end) ?_;refine yT dR.RL.trans rfl (fun _=>stepG_region) ?_;rw[r11];refine yT dR.RL.trans rfl (fun w=>Rl YK rfl (by decide) rfl rfl) ?_
 walk_nrm
 refine Go.Conc.Goes.stop fun w₁ y=>?_
 replace hF:=jM h hF y.1
 have hz:=y.1.size;refine⟨rfl,_,_,go_step YL rfl (by decide) rfl rfl,?_,?_⟩
 ·have hok:({Wg:=q.Wg,C:=q.C,n:=q.n,B0:=q.B0,rb:=q.rb,cb:=q.cb,db:=q.db,ib:=ib,tb:=tb,j:=k,rows:=q.rows,aa:=q.aa,T:=q.Ts k,U:=q.Us k}:EP).Ok:=⟨h.h7,h.w7,h.c7,h.cw,h.r,h.c,h.d,hk,h.n16,h.hr,h.hc,h.hT k hk,h.hU k hk⟩
  have he:=early hok (w:=w₁) ⟨hF.b.r,hF.b.c,hF.b.d,(iN hF.i).1,(iN hF.t).1,hF.b.g,hF.b.tabs⟩ (fun b hb=>by
   rcases hb with hb|hb|hb
   ·have:=hb.1;have:=hF.b.low;exact aH hb.1 hF.b.low
   ·rw[hb];show ib<_;omega
   ·rw[hb];show tb<_;omega)
  exact GE.frame (X:=EP.X (({Wg:=q.Wg,C:=q.C,n:=q.n,B0:=q.B0,rb:=q.rb,cb:=q.cb,db:=q.db,ib:=ib,tb:=tb,j:=k,rows:=q.rows,aa:=q.aa,T:=q.Ts k,U:=q.Us k}:EP))) (Stop':=q.c.ES k) (fun S g w x=>x) he
 ·refine au rfl (fun _=>stepG_region_end) fun w₁ y=>?_;have hB:=bQ h hF.b y;refine au rfl (fun _=>stepG_inBlock) fun w₁ y=>?_
  replace hB:=bQ h hB y
  refine au rfl (fun _=>stepG_region) fun w₁ y=>?_
  replace hB:=bQ h hB y
  rw[r12];refine nV (v:=.int .i64 ((k+1:Nat):Int)) YM rfl (by decide) (fun w=>by unfold execOp;simp[go_sem,Act.eval,aag h hk]) (fun w=>by unfold execOp;simp[go_sem,Act.eval]) fun w₁ y=>?_
  replace hB:=bQ h hB y
  walk_nrm
  refine lT YN rfl (by decide) (.inl rfl) rfl fun w₁ y=>?_
  replace hB:=bQ h hB y
  walk_nrm
  refine au rfl (fun _=>stepG_region_end) fun w₁ y=>?_
  replace hB:=bQ h hB y
  refine au rfl (fun _=>stepG_inLoop) fun w₁ y=>?_
  replace hB:=bQ h hB y
  exact ih _ _ _ _ _ _ _ _ _ _ _ _ _ _ _ _ _ _ _ _ _ _ _ _ _ _ _ hB
end
open Go.ConcR (KK wgBlock WgAt stA smA rd wr Payload Aside2 DC0 ofEvent_cell)
set_option linter.unusedSimpArgs false
set_option linter.unusedVariables false
theorem abX:q8[0]? =some {dst:=some 25,op:=.binOp .lss 3 (.tmp 24) (.tmp 23) 3,type:=0,pos:= "slate.go:113",after:=#[],guard:=none}:=rfl
theorem abY:q9[0]? =some {dst:=some 26,op:=.move (.tmp 24),type:=3,pos:= "slate.go:113",after:=#[],guard:=none}:=rfl
theorem abZ:q9[1]? =some {dst:=some 27,op:=.indexAddr 24 (.tmp 22) (.tmp 24),type:=0,pos:= "slate.go:113",after:=#[],guard:=none}:=rfl
theorem ab0:q9[2]? =some (p9 2):=rfl
theorem ab1:q9[3]? =some (p9 3):=rfl
theorem ab2:q9[4]? =some (p9 4):=rfl
theorem ab3:q9[5]? =some (p9 5):=rfl
theorem ab4:q9[6]? =some (p9 6):=rfl
theorem YJ:q10[0]? =some (p10 0):=rfl
theorem K_{w₁ w₂:World}(o o':Obj):grown (grown (fun _=>False) w₁ (w₁.alloc o)) w₂ (w₂.alloc o')=SX w₁.heap.size w₂.heap.size:=by
 have s1:(w₁.alloc o).heap.size=w₁.heap.size+1:=by simp
 have s2:(w₂.alloc o').heap.size=w₂.heap.size+1:=by simp
 funext b;apply propext;simp only[grown,SX,s1,s2];constructor
 ·rintro((x|x)|x)
  ·exact x.elim
  ·exact .inr (.inl (by omega))
  ·exact .inr (.inr (by omega))
 ·rintro(x|x|x)
  ·exact x.elim
  ·exact .inl (.inr (by omega))
  ·exact .inr (by omega)
section
variable {q:WP}
theorem Ll(h:q.Ok){r k:Nat}(hkr:k+(r+1)=q.n)(ih:∀(x0 x1 x5 x6 x7 x10 x11 x12 x13 x14 x15 x16 x17 x18 x19 x20 x21 x25 x26 x27 x28 x29 x30 x31 x32 x33:Value) (w:World),BK q w→GE prog true q.Bs (q.c.Gv r) (fun _=>False) (G (b5.at ⟨#[x0,x1,q.gv,.pointer (some ⟨q.rb,0,none⟩),.pointer (some ⟨q.cb,0,none⟩),x5,x6,x7,.pointer (some ⟨q.db,0,none⟩),.pointer (some ⟨q.Wg,0,none⟩),x10,x11,x12,x13,x14,x15,x16,x17,x18,x19,x20,x21,q.gv,.int .i64 q.n,.int .i64 ((k+1:Nat):Int),x25,x26,x27,x28,x29,x30,x31,x32,x33],[]⟩ [.code LB,.inLoop LB,.inBlock 0,.code MR]) q.cs) w)(x0 x1 x5 x6 x7 x10 x11 x12 x13 x14 x15 x16 x17 x18 x19 x20 x21 x25 x26 x27 x28 x29 x30 x31 x32 x33:Value)(w:World)(hF:BK q w):GE prog true q.Bs (q.c.Gv (r+1)) (fun _=>False) (G (b5.at ⟨#[x0,x1,q.gv,.pointer (some ⟨q.rb,0,none⟩),.pointer (some ⟨q.cb,0,none⟩),x5,x6,x7,.pointer (some ⟨q.db,0,none⟩),.pointer (some ⟨q.Wg,0,none⟩),x10,x11,x12,x13,x14,x15,x16,x17,x18,x19,x20,x21,q.gv,.int .i64 q.n,.int .i64 k,x25,x26,x27,x28,x29,x30,x31,x32,x33],[]⟩ [.code LB,.inLoop LB,.inBlock 0,.code MR]) q.cs) w:=by
 have hk:k<q.n:=by omega
 have hkz:(k:Int)<(q.n:Int):=by omega
 have hk0:(0:Int)≤(k:Int):=by omega
 obtain⟨hgv,hgb⟩:=h.gv (by omega);rw[hgv]
 conv=>arg 6;arg 1;arg 3;rw[Sa]
 refine au rfl (fun _=>stepG_seq) fun w₁ y=>?_
 replace hF:=bQ h hF y
 refine au rfl (fun _=>stepG_region) fun w₁ y=>?_
 replace hF:=bQ h hF y
 rw[r8];refine nV (v:=.bool true) abX rfl (by decide) (fun w=>by unfold execOp;simp[Act.eval,go_sem,hk]) (fun w=>by unfold execOp;simp[Act.eval,go_sem]) fun w₁ y=>?_
 replace hF:=bQ h hF y
 walk_nrm
 refine au rfl (fun _=>stepG_region_end) fun w₁ y=>?_
 replace hF:=bQ h hF y
 refine au rfl (fun _=>stepG_seq) fun w₁ y=>?_
 replace hF:=bQ h hF y
 refine au rfl (fun _=>stepG_cond (t:=true) rfl) fun w₁ y=>?_
 replace hF:=bQ h hF y
 simp only[↓reduceIte];refine au rfl (fun _=>stepG_skip) fun w₁ y=>?_
 replace hF:=bQ h hF y
 refine au rfl (fun _=>stepG_seq) fun w₁ y=>?_
 replace hF:=bQ h hF y
 refine au rfl (fun _=>stepG_block) fun w₁ y=>?_
 replace hF:=bQ h hF y
 refine au rfl (fun _=>stepG_seq) fun w₁ y=>?_
 replace hF:=bQ h hF y
 refine au rfl (fun _=>stepG_region) fun w₁ y=>?_
 replace hF:=bQ h hF y
 rw[r9];refine lT abY rfl (by decide) (.inl rfl) rfl fun w₁ y=>?_
 replace hF:=bQ h hF y
 walk_nrm
 refine nV (v:=.pointer (some ⟨q.gb,k,none⟩)) abZ rfl (by decide) (fun w=>by unfold execOp;simp[Act.eval,go_sem,hk,hkz,hk0]) (fun w=>by unfold execOp;simp[Act.eval,go_sem,hk,hkz,hk0]) fun w₁ y=>?_
 replace hF:=bQ h hF y
 walk_nrm
 refine GE.read (ad:=⟨q.gb,k,none⟩) rfl (.inl hgb) fun w₁ y=>⟨jQ (.inr (.inl rfl)) ab0 rfl (by decide) rfl rfl ((bQ h hF y).x k hk) yY,?_⟩
 replace hF:=bQ h hF y
 have e2:(p9 2).dst=some 28:=rfl;rw[e2]
 walk_nrm
 refine Ew (.inl ⟨rfl,rfl⟩) ab1 rfl (by decide) rfl fun w₁ y=>?_
 replace hF:=bQ h hF y
 have e3:(p9 3).dst=some 10:=rfl;rw[e3]
 walk_nrm
 have hi:(w₁.alloc (.cells #[.int .i64 0] 3)).heap[w₁.heap.size]? =some (.cells #[.int .i64 0] 3):=bJ _ _;have hlo:=hF.low
 replace hF:BK q (w₁.alloc (.cells #[.int .i64 0] 3)):=A8 h _ _ (fun b hb=>h_ _ _ _ (aH hb.1 hlo)) (by simp) rfl hF
 refine Ew (.inr ⟨rfl,rfl⟩) ab2 rfl (by decide) rfl fun w₂ y=>?_
 replace hF:=bQ h hF y
 have e4:(p9 4).dst=some 11:=rfl;rw[e4]
 walk_nrm
 have hi2:=(y.keep w₁.heap.size (.inr (.inr ⟨bE _,by simp⟩))).trans hi;have hz2:w₁.heap.size<w₂.heap.size:=by have:=y.size;simp at this;omega
 have hlo2:=hF.low;have ht:(w₂.alloc (.cells #[.string ⟨#[]⟩] 9)).heap[w₂.heap.size]? =some (.cells #[.string ⟨#[]⟩] 9):=bJ _ _;have hi3:(w₂.alloc (.cells #[.string ⟨#[]⟩] 9)).heap[w₁.heap.size]? =some (.cells #[.int .i64 0] 3):=(h_ _ _ _ hz2).trans hi2
 replace hF:BK q (w₂.alloc (.cells #[.string ⟨#[]⟩] 9)):=A8 h _ _ (fun b hb=>h_ _ _ _ (aH hb.1 hlo2)) (by simp) rfl hF
 have hI:IK q w₁.heap.size w₂.heap.size (.int .i64 0) (.string ⟨#[]⟩) (w₂.alloc (.cells #[.string ⟨#[]⟩] 9)):=⟨hF,hi3,ht,hlo,hlo2⟩;have hit:w₁.heap.size<(w₂.alloc (.cells #[.string ⟨#[]⟩] 9)).heap.size∧w₂.heap.size<(w₂.alloc (.cells #[.string ⟨#[]⟩] 9)).heap.size:=by constructor<;>simp<;>omega
 rw[K_];have hne:w₁.heap.size≠w₂.heap.size:=by omega
 generalize (w₂.alloc (.cells #[.string ⟨#[]⟩] 9))=w₃ at hI hit ⊢;generalize w₁.heap.size=ib at*;generalize w₂.heap.size=tb at*;clear hF hi hi2 hi3 ht y;refine Ex (ad:=⟨ib,0,none⟩) (.inl ⟨rfl,_,rfl⟩) ab3 rfl (by decide) rfl rfl rfl (.inr (.inl rfl)) (fun w₄ y=>⟨_,iN (jM h hI y).i⟩) yY fun w₄ y=>?_
 replace hI:=jM h hI y
 replace hit:ib<w₄.heap.size∧tb<w₄.heap.size:=⟨aH hit.1 y.size,aH hit.2 y.size⟩
 have e5:(p9 5).dst=none:=rfl;rw[e5]
 walk_nrm
 have hA:=aside_setCell w₄ ⟨ib,0,none⟩ (.int .i64 k)
 replace hI:IK q ib tb (.int .i64 k) (.string ⟨#[]⟩) (w₄.setCell ⟨ib,0,none⟩ (.int .i64 k)):=
  ⟨A8 h _ _ (fun b hb=>hA.block b (by have:=hb.1;have:=hI.Y_;show b≠ib;omega)) (Nat.le_of_eq hA.size.symm) hA.os hI.b,Da hI.i _,(hA.block tb (by show tb≠ib;omega)).trans hI.t,hI.Y_,hI.GG⟩
 replace hit:ib<(w₄.setCell ⟨ib,0,none⟩ (.int .i64 k)).heap.size∧tb<(w₄.setCell ⟨ib,0,none⟩ (.int .i64 k)).heap.size:=by rw[hA.size];exact hit
 generalize (w₄.setCell ⟨ib,0,none⟩ (.int .i64 k))=w₅ at hI hit ⊢;clear hA y;refine Ex (ad:=⟨tb,0,none⟩) (.inr ⟨rfl,_,rfl⟩) ab4 rfl (by decide) rfl rfl rfl (.inr (.inr rfl)) (fun w₆ y=>⟨_,iN (jM h hI y).t⟩) yY fun w₆ y=>?_
 replace hI:=jM h hI y
 replace hit:ib<w₆.heap.size∧tb<w₆.heap.size:=⟨aH hit.1 y.size,aH hit.2 y.size⟩
 have e6:(p9 6).dst=none:=rfl;rw[e6]
 walk_nrm
 have hA:=aside_setCell w₆ ⟨tb,0,none⟩ (.string (q.Ts k))
 replace hI:IK q ib tb (.int .i64 k) (.string (q.Ts k)) (w₆.setCell ⟨tb,0,none⟩ (.string (q.Ts k))):=
  ⟨A8 h _ _ (fun b hb=>hA.block b (by have:=hb.1;have:=hI.GG;show b≠tb;omega)) (Nat.le_of_eq hA.size.symm) hA.os hI.b,(hA.block ib (by show ib≠tb;omega)).trans hI.i,Da hI.t _,hI.Y_,hI.GG⟩
 replace hit:ib<(w₆.setCell ⟨tb,0,none⟩ (.string (q.Ts k))).heap.size∧tb<(w₆.setCell ⟨tb,0,none⟩ (.string (q.Ts k))).heap.size:=by rw[hA.size];exact hit
 generalize (w₆.setCell ⟨tb,0,none⟩ (.string (q.Ts k)))=agc at hI hit ⊢;clear hA y;refine au rfl (fun _=>stepG_region_end) fun Gp y=>?_
 replace hI:=jM h hI y
 replace hit:ib<Gp.heap.size∧tb<Gp.heap.size:=⟨aH hit.1 y.size,aH hit.2 y.size⟩
 clear y;refine au rfl (fun _=>stepG_seq) fun Gp y=>?_
 replace hI:=jM h hI y
 replace hit:ib<Gp.heap.size∧tb<Gp.heap.size:=⟨aH hit.1 y.size,aH hit.2 y.size⟩
 clear y;refine au rfl (fun _=>stepG_region) fun Gp y=>?_
 replace hI:=jM h hI y
 replace hit:ib<Gp.heap.size∧tb<Gp.heap.size:=⟨aH hit.1 y.size,aH hit.2 y.size⟩
 clear y;rw[r10];refine GE.stop fun w₂ y₂=>⟨rfl,fun hl=>⟨13,?_⟩⟩
 replace hI:=jM h hI y₂
 replace hit:ib<w₂.heap.size∧tb<w₂.heap.size:=⟨aH hit.1 y₂.size,aH hit.2 y₂.size⟩
 clear y₂;refine .inr ⟨rfl,fun w₃ MP=>?_⟩
 replace hI:=jM h hI MP.1
 replace hit:ib<w₃.heap.size∧tb<w₃.heap.size:=⟨aH hit.1 MP.1.size,aH hit.2 MP.1.size⟩
 refine goes_call (f:=12) YJ rfl (by decide) rfl func12 (nm_add link) rfl ⟨⟨rfl,by simp⟩,?_⟩;have ej:q.c.n-(r+1)=k:=by show q.n-(r+1)=k;omega
 rw[ej];have hA:=fun(a₀:Act) (k₀:List Item)=>NM (c:=q.c) (S:=SX ib tb) (L:=link) (F:=fun w=>IK q ib tb (.int .i64 k) (.string (q.Ts k)) w∧ib<w.heap.size∧tb<w.heap.size) (j:=k) (Next:=q.c.NX r) (b₀:=b5) (a₀:=a₀) (ops₀:=q10) (i₀:=0) (rest₀:=[]) (k₀:=k₀) (cs:=q.cs) (mT:=3) Ko rfl
  (fun w w' y x=>⟨jM h x.1 y.1,aH x.2.1 y.1.size,aH x.2.2 y.1.size⟩)
  (fun w v x=>by
    have hA:=aside_setCell w (stA q.Wg) v;have hb:∀b,q.Bs b∨SX ib tb b→b≠q.Wg:=by
     rintro b (hb|hb|rfl|rfl)
     ·exact hb.2.1
     ·exact hb.elim
     ·have:=x.1.Y_;have:=h.wB;omega
     ·have:=x.1.GG;have:=h.wB;omega
    have hsz:(w.setCell (stA q.Wg) v).heap.size=w.heap.size:=hA.size
    exact⟨Sy h (fun b hb'=>hA.block b (hb b hb')) (Nat.le_of_eq hA.size.symm) hA.os x.1,by show ib<(w.setCell (stA q.Wg) v).heap.size;rw[hsz];exact x.2.1,by show tb<(w.setCell (stA q.Wg) v).heap.size;rw[hsz];exact x.2.2⟩)
 simp only[body_add,addFn,Option.getD_some]at hA
 walk_nrmf f12
 refine hA _ _ (fun w x hl=>?_) w₃ ⟨⟨hI,hit⟩,MP.2 hl⟩;have ed:(q10[0]?).bind (·.dst)=some 29:=rfl;rw[ed]
 walk_nrm
 rw[←hgv];exact XB h hk ih _ _ _ _ _ _ _ _ _ _ _ _ _ _ _ _ _ _ _ _ _ _ _ _ w x.1 x.2.1 x.2.2
theorem OT(h:q.Ok):∀(r k:Nat),k+r=q.n→∀(x0 x1 x5 x6 x7 x10 x11 x12 x13 x14 x15 x16 x17 x18 x19 x20 x21 x25 x26 x27 x28 x29 x30 x31 x32 x33:Value) (w:World),BK q w→GE prog true q.Bs (q.c.Gv r) (fun _=>False) (G (b5.at ⟨#[x0,x1,q.gv,.pointer (some ⟨q.rb,0,none⟩),.pointer (some ⟨q.cb,0,none⟩),x5,x6,x7,.pointer (some ⟨q.db,0,none⟩),.pointer (some ⟨q.Wg,0,none⟩),x10,x11,x12,x13,x14,x15,x16,x17,x18,x19,x20,x21,q.gv,.int .i64 q.n,.int .i64 k,x25,x26,x27,x28,x29,x30,x31,x32,x33],[]⟩ [.code LB,.inLoop LB,.inBlock 0,.code MR]) q.cs) w:=by
 intro r;induction r with
 |zero=>intro k hk x0 x1 x5 x6 x7 x10 x11 x12 x13 x14 x15 x16 x17 x18 x19 x20 x21 x25 x26 x27 x28 x29 x30 x31 x32 x33 w hF;exact OU h k (by omega) _ _ _ _ _ _ _ _ _ _ _ _ _ _ _ _ _ _ _ _ _ _ _ _ _ _ w hF
 |succ r ih=>intro k hk x0 x1 x5 x6 x7 x10 x11 x12 x13 x14 x15 x16 x17 x18 x19 x20 x21 x25 x26 x27 x28 x29 x30 x31 x32 x33 w hF;exact Ll h hk (ih (k+1) (by omega)) _ _ _ _ _ _ _ _ _ _ _ _ _ _ _ _ _ _ _ _ _ _ _ _ _ _ w hF
end
end Go.Proofs.YtheibfffilomcabGreatDoor
