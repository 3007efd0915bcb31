import Derived.Test.YtheibfffilomcabGreatDoorR4U
import Derived.Test.YtheibfffilomcabGreatDoorK16U
set_option linter.all false
set_option maxRecDepth 100000
set_option maxHeartbeats 4000000
namespace Go.Proofs.YtheibfffilomcabGreatDoor
open Go.Ren Go.Conc Go.ConcN Go.RowKit Go.Conc.Lib Go.ConcR.Gen Go.ConcN.Gen Go.Proofs.Tryz
variable {w:World} {N0 k:Nat} {v:Value} {xs:List Value} {a:Act} {cs:List Frame}
open Go.ConcR (KK wgBlock WgAt stA smA rd wr Payload Aside2 DC0 ofEvent_cell)
set_option linter.unusedSimpArgs false
set_option linter.unusedVariables false
theorem rowOf{w₁:World}(h:w.ownsRow N0 9 1 v k xs)(hk:∀g,v.ownBlock=some g→w₁.heap[g]? =w.heap[g]?):w₁.ownsRow N0 9 1 v k xs:=by obtain⟨h1,h2⟩:=h;refine⟨h1,h2.imp id ?_⟩;rintro⟨g,cap,cur,rfl,h3,h4,h5⟩;exact⟨g,cap,cur,rfl,h3,(hk g rfl).trans h4,h5⟩
theorem Pn(h:w.ownsRow N0 9 1 v k xs){g:Nat}(hg:v.ownBlock=some g):N0≤g∧g<w.heap.size:=by
 rcases h.2 with⟨rfl,_⟩|⟨g',cap,cur,rfl,h3,h4,_⟩
 ·simp[Value.ownBlock]at hg
 ·simp[Value.ownBlock]at hg;subst hg;exact⟨h3,(kP.1 h4).1⟩
structure LI (N0 sb:Nat) (p q:Int) (v:Value) (k:Nat) (xs:List Value) (S:Nat→Prop) (w:World):Prop where
 row:w.ownsRow N0 9 1 v k xs
 UZ:∀g,v.ownBlock=some g→S g∧g≠sb
 box:w.heap[sb]? =some (.cells #[.int .i64 p,.int .i64 q] 23)
 bS:S sb
 lo:N0≤w.heap.size
 lob:N0≤sb
def TX (N0:Nat) (ao:Option Addr) (T:List ByteArray) (w:World):Prop:=∀j t,T[j]? =some t→∃b o,ao=some ⟨b,o,none⟩∧b<N0∧w.cell? ⟨b,o+j,none⟩=some (.string t)
section
variable {N0 sb k:Nat} {p q:Int} {v:Value} {xs:List Value} {Bs S S':Nat→Prop} {w w₁:World} {ao:Option Addr} {T:List ByteArray}
theorem LI.rely(h:LI N0 sb p q v k xs S w)(y:RY (fun b=>Bs b∨S b) w w₁):LI N0 sb p q v k xs S w₁:=
 ⟨rowOf h.row fun g hg=>y.keep g (.inr (h.UZ g hg).1),h.UZ,(y.keep sb (.inr h.bS)).trans h.box,h.bS,fA h.lo y.size,h.lob⟩
theorem LI.new(h:LI N0 sb p q v k xs S w)(hS:∀b,S b→S' b)(o:Obj):LI N0 sb p q v k xs S' (w.alloc o):=
 ⟨rowOf h.row fun g hg=>h_ _ _ _ (Pn h.row hg).2,fun g hg=>⟨hS g (h.UZ g hg).1,(h.UZ g hg).2⟩,(h_ _ _ _ (kP.1 h.box).1).trans h.box,hS _ h.bS,by simp;exact Nat.le_succ_of_le h.lo,h.lob⟩
theorem TX.keep(h:TX N0 ao T w)(hk:∀b,b<N0→w₁.heap[b]? =w.heap[b]?):TX N0 ao T w₁:=fun j t hj=>by obtain⟨b,o,h1,h2,h3⟩:=h j t hj;exact⟨b,o,h1,h2,(cell_of_block (hk b h2) (o+j)).trans h3⟩
theorem TX.at{b o j:Nat}{t:ByteArray}(h:TX N0 (some ⟨b,o,none⟩) T w)(hj:T[j]? =some t):w.cell? ⟨b,o+j,none⟩=some (.string t):=by obtain⟨b',o',h1,_,h3⟩:=h j t hj;simp only[sJ,Addr.mk.injEq]at h1;obtain⟨rfl,rfl,_⟩:=h1;exact h3
theorem TX.rely(h:TX N0 ao T w)(hB:∀b,b<N0→Bs b)(y:RY (fun b=>Bs b∨S b) w w₁):TX N0 ao T w₁:=h.keep fun b hb=>y.keep b (.inl (hB b hb))
theorem TX.new(h:TX N0 ao T w)(hN:N0≤w.heap.size)(o:Obj):TX N0 ao T (w.alloc o):=h.keep fun b hb=>h_ _ _ _ (by omega)
end
section
variable {main:Bool} {Bs S:Nat→Prop} {Stop:(Nat→Prop)→Goroutine→World→Prop} {w:World} {b:Frame} {a:Act} {kk:List Item} {cs:List Frame} {ops:Array Oper} {i:Nat} {rest:List Nat} {o:Oper} {n:Nat} {L:List (Nat × Value)} {d:Nat} {v:Value} {N0 sb k:Nat} {p q:Int} {xs:List Value} {ao:Option Addr} {T:List ByteArray}
theorem La{tb:Nat}{t:ByteArray}{x y:Operand}(hB:∀b,Bs b↔b<N0)(hK:Kn n L a)(ho:ops[i]? =some o)(hw:Region.wanted o (yielded ops a.tmps)=true)(hk:b.kind≠ .early)(hop:o.op= .call {callee:=.builtin .append,args:=#[x,y],argTypes:=#[24,24]})(hx:a.eval x=v)(hy:a.eval y= .slice (some ⟨tb,0,none⟩) 1 1)(hF:LI N0 sb p q v k xs S w)(hX:TX N0 ao T w)(ht:w.heap[tb]? =some (.cells #[.string t] 9))(hT:S tb)(Le:k<16)(hq:(prog.funcs[b.fn]?).any (·.norace)=false)(hdst:o.dst=some d)(hd:d<n)(hL:(L.all fun p=>p.1 != d)=true)(h:∀a' v' w' S',LI N0 sb p q v' (k+1) (xs++[.string t]) S' w'→TX N0 ao T w'→Kn n ((d,v')::L) a'→GE prog main Bs Stop S' (G (b.at a' (.inRegion ops rest::kk)) cs) w'):
 GE prog main Bs Stop S (G (b.at a (.inRegion ops (i::rest)::kk)) cs) w:=by
 refine GE.step rfl fun w₁ yy=>?_;have hF1:=hF.rely yy;have hX1:=hX.rely (fun b hb=>(hB b).2 hb) yy;have ht1:w₁.heap[tb]? =some (.cells #[.string t] 9):=(yy.keep tb (.inr hT)).trans ht;obtain⟨inf,h1,h2,h3,h4⟩:=info_parts OH;have hnews:∀(j:Nat) (u:Value),[Value.string t][j]? =some u→w₁.cell? ((⟨tb,0,none⟩:Addr).add j)=some u:=by
  intro j u hj;cases j with
  |zero=>simp at hj;subst hj;simp[Addr.add,World.cell?,ht1]
  |succ j=>simp at hj
 have hone:∀u∈[Value.string t],u.oneCell'=true:=by intro u hu;simp at hu;subst hu;rfl
 obtain⟨v',w',r1,r2,r3,r4,_⟩:=nO (P:=prog) w₁ N0 24 o.type 9 inf _ 1 16 underlying24 h1 h2 h3 h4 rfl v k xs hF1.row ⟨tb,0,none⟩ 1 1 [.string t] rfl hnews hone (by omega) (by simp[maxLen];omega) (by omega) hF1.lo;have ev:=events_append_where (P:=prog) w₁ N0 24 o.type 9 inf _ 1 16 underlying24 h1 h2 h3 h4 v k xs hF1.row ⟨tb,0,none⟩ 1 1 [.string t] rfl hnews hone (by simp[maxLen];omega) (by omega);have hr:(execOp a.eval o).run prog w₁= .ok (.value v') w':=by unfold execOp;simp only[hop,resolve,invoke,builtin,kN,qg,kM,List.map_toArray,List.map_cons,List.map_nil,hx,hy,r1]
 have he:=events_append_op (P:=prog) (o:=o) (a:=a) (w:=w₁) x y 24 hop hx hy #[];have Vo:∀g,v.ownBlock=some g→S g:=fun g hg=>(hF.UZ g hg).1;have hkeep:∀b,b<w₁.heap.size→¬S b→w'.heap[b]? =w₁.heap[b]? :=fun b hb hn=>r3.block b hb fun e=>hn (Vo b e.symm);refine⟨_,w',_,stepG_value ho hw hk hr,⟨hkeep,r3.size,r3.tape,r3.os,r3.output,fun e hm=>?_⟩,?_⟩
 ·have hm':e∈(Builtin.append_ #[24,24] o.type #[v,.slice (some ⟨tb,0,none⟩) 1 1]).events prog w₁ #[]:=by unfold listed at hm;rw[he]at hm;exact Go.Conc.mem_seen hm
  rcases ev e hm' with⟨ad,h5,⟨h6,h7⟩|h6⟩|⟨m,rfl,h6⟩
  ·exact .inl ⟨ad,h5,.inl (by rw[h7];exact hT)⟩
  ·exact .inl ⟨ad,h5,.inl (Vo _ h6.symm)⟩
  ·exact .inr (.inr ⟨m,rfl,by rw[h6];rfl⟩)
 ·rw[hdst];have hkN:∀b,b<N0→w'.heap[b]? =w₁.heap[b]? :=fun b hb=>r3.block b (by have:=hF1.lo;omega) fun e=>by have:=(Pn hF1.row e.symm).1;omega
  refine h _ v' w' _ ⟨r2,fun g hg=>?_,?_,.inl hF.bS,fA hF1.lo r3.size,hF.lob⟩ (hX1.keep hkN) (hK.put hd hL v')
  ·have hlt:=(Pn r2 hg).2;rcases r4 with e|⟨k',e,hk'⟩
   ·exact⟨.inl (Vo g (by rw[←e];exact hg)),(hF.UZ g (by rw[←e];exact hg)).2⟩
   ·rw[hg]at e;cases e;exact⟨.inr ⟨hk',hlt⟩,fun e=>by have:=(kP.1 hF1.box).1;omega⟩
  ·rw[r3.block sb (kP.1 hF1.box).1 fun e=>(hF.UZ sb e.symm).2 rfl];exact hF1.box
end
open Go.ConcR (KK wgBlock WgAt stA smA rd wr Payload Aside2 DC0 ofEvent_cell)
set_option linter.unusedSimpArgs false
set_option linter.unusedVariables false
noncomputable def LA1:Code:=.seq (.region 3 e3 false) (.cond (.tmp 20) .skip (.exit 0))
noncomputable def LA2:Code:=.seq (.block 1 (.region 5 e5 false)) (.region 4 e4 false)
theorem Ce{main:Bool}{b:Frame}{k:List Item}:stepG prog main (G (b.at a (.code LA::k)) cs) w= .go (G (b.at a (.code LA1:: .code LA2::k)) cs) w #[]:=by rw[Xq];exact stepG_seq
noncomputable def headA (a:Act) (cs:List Frame):Goroutine:=G (b3.at a [.code LA,.inLoop LA,.inBlock 0,.code RA]) cs
section
variable {Bs S:Nat→Prop} {Stop:(Nat→Prop)→Goroutine→World→Prop} {w:World} {a:Act} {cs:List Frame} {v:Value} {N0 sb k cap:Nat} {p q:Int} {xs:List Value} {ao:Option Addr} {T:List ByteArray}
theorem Jh{t:ByteArray}(hB:∀b,Bs b↔b<N0)(hk:k<T.length)(Le:k<16)(ht:T[k]? =some t)(hK:Kn 74 [(6,.int .i64 ((k:Nat):Int)),(5,v),(2,.pointer (some ⟨sb,0,none⟩)),(1,.slice ao T.length cap)] a)(hF:LI N0 sb p q v k xs S w)(hX:TX N0 ao T w)(next:∀a' v' w' S',Kn 74 [(6,.int .i64 ((k+1:Nat):Int)),(5,v'),(2,.pointer (some ⟨sb,0,none⟩)),(1,.slice ao T.length cap)] a'→LI N0 sb p q v' (k+1) (xs++[.string t]) S' w'→TX N0 ao T w'→GE prog true Bs Stop S' (headA a' cs) w'):
 GE prog true Bs Stop S (headA a cs) w:=by
 have hkz:(k:Int)<(T.length:Int):=by omega
 have hk0:(0:Int)≤(k:Int):=by omega
 have hkq:(k:Int)<16:=by omega
 have hw1:IntKind.i64.wrap ((k:Int)+1)=(k:Int)+1:=by rw[IntKind.wrap_i64];omega
 obtain⟨bb,oo,rfl,hbb,hcell⟩:=hX k t ht;unfold headA;refine au rfl (fun _=>Ce) fun w₁ y=>?_
 replace hF:=hF.rely y
 replace hX:=hX.rely (fun b hb=>(hB b).2 hb) y
 clear y;unfold LA1;refine au rfl (fun _=>stepG_seq) fun w₁ y=>?_
 replace hF:=hF.rely y
 replace hX:=hX.rely (fun b hb=>(hB b).2 hb) y
 clear y;refine au rfl (fun _=>stepG_region) fun w₁ y=>?_
 replace hF:=hF.rely y
 replace hX:=hX.rely (fun b hb=>(hB b).2 hb) y
 clear y;rw[rg3];refine aR hK TR (ai rfl) (by decide) (.inl rfl) (hK.get (List.mem_cons_self)) rfl (by decide) rfl fun a w₁ y hK=>?_
 replace hF:=hF.rely y
 replace hX:=hX.rely (fun b hb=>(hB b).2 hb) y
 clear y;refine aR hK TT (ai rfl) (by decide) (.inl rfl) (hK.get (List.mem_cons_of_mem _ (List.mem_cons_of_mem _ (List.mem_cons_of_mem _ (List.mem_cons_of_mem _ List.mem_cons_self))))) rfl (by decide) rfl fun a w₁ y hK=>?_
 replace hF:=hF.rely y
 replace hX:=hX.rely (fun b hb=>(hB b).2 hb) y
 clear y;refine bZ (v:=.int .i64 T.length) hK TU (ai rfl) (by decide) rfl (by decide) rfl (fun w=>by have e0:=hK.at (List.mem_cons_self);constructor<;>(unfold execOp;simp[go_sem,e0])) fun a w₁ y hK=>?_
 replace hF:=hF.rely y
 replace hX:=hX.rely (fun b hb=>(hB b).2 hb) y
 clear y;refine bZ (v:=.bool true) hK TW (ai rfl) (by decide) rfl (by decide) rfl (fun w=>by have e0:=hK.at (List.mem_cons_of_mem _ (List.mem_cons_of_mem _ List.mem_cons_self));have e1:=hK.at (List.mem_cons_self);constructor<;>(unfold execOp;simp[go_sem,e0,e1,hkz,hk])) fun a w₁ y hK=>?_
 replace hF:=hF.rely y
 replace hX:=hX.rely (fun b hb=>(hB b).2 hb) y
 clear y;refine aR hK TY (ai rfl) (by decide) (.inl rfl) (hK.get (List.mem_cons_self)) rfl (by decide) rfl fun a w₁ y hK=>?_
 replace hF:=hF.rely y
 replace hX:=hX.rely (fun b hb=>(hB b).2 hb) y
 clear y;refine aR hK TZ ((hK.wanted (t:=true) rfl rfl (List.mem_cons_self)).trans rfl) (by decide) (.inl rfl) (hK.get (List.mem_cons_of_mem _ (List.mem_cons_of_mem _ (List.mem_cons_of_mem _ (List.mem_cons_of_mem _ (List.mem_cons_of_mem _ List.mem_cons_self)))))) rfl (by decide) rfl fun a w₁ y hK=>?_
 replace hF:=hF.rely y
 replace hX:=hX.rely (fun b hb=>(hB b).2 hb) y
 clear y;refine bZ (v:=.bool true) hK T9 ((hK.wanted (t:=true) rfl rfl (List.mem_cons_of_mem _ List.mem_cons_self)).trans rfl) (by decide) rfl (by decide) rfl (fun w=>by have e0:=hK.at (List.mem_cons_self);constructor<;>(unfold execOp;simp[go_sem,e0,hkq])) fun a w₁ y hK=>?_
 replace hF:=hF.rely y
 replace hX:=hX.rely (fun b hb=>(hB b).2 hb) y
 clear y;refine bZ (v:=.bool true) hK T_ (ai rfl) (by decide) rfl (by decide) rfl (fun w=>by have e0:=hK.at (List.mem_cons_of_mem _ (List.mem_cons_of_mem _ List.mem_cons_self));have e1:=hK.at (List.mem_cons_self);constructor<;>(unfold execOp;simp[go_sem,e0,e1])) fun a w₁ y hK=>?_
 replace hF:=hF.rely y
 replace hX:=hX.rely (fun b hb=>(hB b).2 hb) y
 clear y;refine au rfl (fun _=>stepG_region_end) fun w₁ y=>?_
 replace hF:=hF.rely y
 replace hX:=hX.rely (fun b hb=>(hB b).2 hb) y
 clear y;refine au rfl (fun _=>stepG_cond (t:=true) (hK.get (List.mem_cons_self))) fun w₁ y=>?_
 replace hF:=hF.rely y
 replace hX:=hX.rely (fun b hb=>(hB b).2 hb) y
 clear y;simp only[↓reduceIte];refine au rfl (fun _=>stepG_skip) fun w₁ y=>?_
 replace hF:=hF.rely y
 replace hX:=hX.rely (fun b hb=>(hB b).2 hb) y
 clear y;unfold LA2;refine au rfl (fun _=>stepG_seq) fun w₁ y=>?_
 replace hF:=hF.rely y
 replace hX:=hX.rely (fun b hb=>(hB b).2 hb) y
 clear y;refine au rfl (fun _=>stepG_block) fun w₁ y=>?_
 replace hF:=hF.rely y
 replace hX:=hX.rely (fun b hb=>(hB b).2 hb) y
 clear y;refine au rfl (fun _=>stepG_region) fun w₁ y=>?_
 replace hF:=hF.rely y
 replace hX:=hX.rely (fun b hb=>(hB b).2 hb) y
 clear y;rw[rg5];refine aR hK abx (ai rfl) (by decide) (.inl rfl) (hK.get (List.mem_cons_of_mem _ (List.mem_cons_of_mem _ (List.mem_cons_of_mem _ (List.mem_cons_of_mem _ (List.mem_cons_of_mem _ (List.mem_cons_of_mem _ (List.mem_cons_of_mem _ (List.mem_cons_of_mem _ (List.mem_cons_of_mem _ List.mem_cons_self)))))))))) rfl (by decide) rfl fun a w₁ y hK=>?_
 replace hF:=hF.rely y
 replace hX:=hX.rely (fun b hb=>(hB b).2 hb) y
 clear y;refine aR hK aby (ai rfl) (by decide) (.inl rfl) (hK.get (List.mem_cons_of_mem _ (List.mem_cons_of_mem _ (List.mem_cons_of_mem _ (List.mem_cons_of_mem _ (List.mem_cons_of_mem _ (List.mem_cons_of_mem _ (List.mem_cons_of_mem _ (List.mem_cons_of_mem _ (List.mem_cons_of_mem _ (List.mem_cons_of_mem _ (List.mem_cons_of_mem _ (List.mem_cons_of_mem _ List.mem_cons_self))))))))))))) rfl (by decide) rfl fun a w₁ y hK=>?_
 replace hF:=hF.rely y
 replace hX:=hX.rely (fun b hb=>(hB b).2 hb) y
 clear y;refine aR hK abz (ai rfl) (by decide) (.inl rfl) (hK.get (List.mem_cons_of_mem _ (List.mem_cons_of_mem _ (List.mem_cons_of_mem _ (List.mem_cons_of_mem _ (List.mem_cons_of_mem _ (List.mem_cons_of_mem _ (List.mem_cons_of_mem _ (List.mem_cons_of_mem _ (List.mem_cons_of_mem _ (List.mem_cons_of_mem _ List.mem_cons_self))))))))))) rfl (by decide) rfl fun a w₁ y hK=>?_
 replace hF:=hF.rely y
 replace hX:=hX.rely (fun b hb=>(hB b).2 hb) y
 clear y;refine bZ (v:=.pointer (some ⟨bb,oo+k,none⟩)) hK abA (ai rfl) (by decide) rfl (by decide) rfl (fun w=>by have e0:=hK.at (List.mem_cons_of_mem _ List.mem_cons_self);have e1:=hK.at (List.mem_cons_self);constructor<;>(unfold execOp;simp[go_sem,e0,e1,hk,hkz,hk0,Addr.add])) fun a w₁ y hK=>?_
 replace hF:=hF.rely y
 replace hX:=hX.rely (fun b hb=>(hB b).2 hb) y
 clear y;refine J8 (.inr (.inl rfl)) hK abB (ai rfl) (by decide) rfl (hK.get (List.mem_cons_self)) (.inl ((hB bb).2 hbb)) (fun w₁ y=>(hX.rely (fun b hb=>(hB b).2 hb) y).at ht) xu rfl (by decide) rfl fun a w₁ y hK=>?_
 replace hF:=hF.rely y
 replace hX:=hX.rely (fun b hb=>(hB b).2 hb) y
 clear y;refine Ow (o₀:=.cells #[.string t] 9) (v:=fun w=>.slice (some ⟨w.heap.size,0,none⟩) 1 1) hK abC (ai rfl) (by decide) rfl (by decide) rfl (fun w=>by have e0:=(hK.at (List.mem_cons_self));constructor<;>(unfold execOp;simp[go_sem,e0])) fun a w₁ S y hS hnw hK=>?_
 replace hX:=(hX.rely (fun b hb=>(hB b).2 hb) y).new (hF.rely y).lo (.cells #[.string t] 9)
 replace hF:=(hF.rely y).new hS (.cells #[.string t] 9)
 have htb:=bJ w₁ (.cells #[.string t] 9);clear y;refine La (k:=k) (t:=t) (tb:=w₁.heap.size) hB hK abD (ai rfl) (by decide) rfl (hK.get (List.mem_cons_of_mem _ (List.mem_cons_of_mem _ (List.mem_cons_of_mem _ (List.mem_cons_of_mem _ (List.mem_cons_of_mem _ List.mem_cons_self)))))) (hK.get (List.mem_cons_self)) hF hX htb hnw Le xu rfl (by decide) rfl fun a v w S hF hX hK=>?_
 replace hK:=hK.sub (L':=[(29,v),(6,.int .i64 ((k:Nat):Int)),(2,.pointer (some ⟨sb,0,none⟩)),(1,.slice (some ⟨bb,oo,none⟩) T.length cap)]) (by intro p hp;simp only[di,eU,eX]at hp ⊢;rcases hp with rfl|rfl|rfl|rfl<;>simp)
 refine aR hK abE (ai rfl) (by decide) (.inr rfl) (hK.get (List.mem_cons_self)) rfl (by decide) rfl fun a w₁ y hK=>?_
 replace hF:=hF.rely y
 replace hX:=hX.rely (fun b hb=>(hB b).2 hb) y
 clear y;refine au rfl (fun _=>stepG_region_end) fun w₁ y=>?_
 replace hF:=hF.rely y
 replace hX:=hX.rely (fun b hb=>(hB b).2 hb) y
 clear y;refine au rfl (fun _=>stepG_inBlock) fun w₁ y=>?_
 replace hF:=hF.rely y
 replace hX:=hX.rely (fun b hb=>(hB b).2 hb) y
 clear y;refine au rfl (fun _=>stepG_region) fun w₁ y=>?_
 replace hF:=hF.rely y
 replace hX:=hX.rely (fun b hb=>(hB b).2 hb) y
 clear y;rw[rg4];refine aR hK abu (ai rfl) (by decide) (.inl rfl) (hK.get (List.mem_cons_of_mem _ (List.mem_cons_of_mem _ List.mem_cons_self))) rfl (by decide) rfl fun a w₁ y hK=>?_
 replace hF:=hF.rely y
 replace hX:=hX.rely (fun b hb=>(hB b).2 hb) y
 clear y;refine bZ (v:=.int .i64 ((k+1:Nat):Int)) hK abv (ai rfl) (by decide) rfl (by decide) rfl (fun w=>by have e0:=hK.at (List.mem_cons_self);constructor<;>(unfold execOp;simp[go_sem,e0,hw1])) fun a w₁ y hK=>?_
 replace hF:=hF.rely y
 replace hX:=hX.rely (fun b hb=>(hB b).2 hb) y
 clear y
 replace hK:=hK.sub (L':=[(22,.int .i64 ((k+1:Nat):Int)),(5,v),(2,.pointer (some ⟨sb,0,none⟩)),(1,.slice (some ⟨bb,oo,none⟩) T.length cap)]) (by intro p hp;simp only[di,eU,eX]at hp ⊢;rcases hp with rfl|rfl|rfl|rfl<;>simp)
 refine aR hK abw (ai rfl) (by decide) (.inr rfl) (hK.get (List.mem_cons_self)) rfl (by decide) rfl fun a w₁ y hK=>?_
 replace hF:=hF.rely y
 replace hX:=hX.rely (fun b hb=>(hB b).2 hb) y
 clear y
 replace hK:=hK.sub (L':=[(6,.int .i64 ((k+1:Nat):Int)),(5,v),(2,.pointer (some ⟨sb,0,none⟩)),(1,.slice (some ⟨bb,oo,none⟩) T.length cap)]) (by intro p hp;simp only[di,eU,eX]at hp ⊢;rcases hp with rfl|rfl|rfl|rfl<;>simp)
 refine au rfl (fun _=>stepG_region_end) fun w₁ y=>?_
 replace hF:=hF.rely y
 replace hX:=hX.rely (fun b hb=>(hB b).2 hb) y
 clear y;refine au rfl (fun _=>stepG_inLoop) fun w₁ y=>?_
 replace hF:=hF.rely y
 replace hX:=hX.rely (fun b hb=>(hB b).2 hb) y
 clear y;exact next a v w₁ S hK hF hX
end
open Go.ConcR (KK wgBlock WgAt stA smA rd wr Payload Aside2 DC0 ofEvent_cell)
set_option linter.unusedSimpArgs false
set_option linter.unusedVariables false
section
variable {Bs S:Nat→Prop} {Stop:(Nat→Prop)→Goroutine→World→Prop} {w:World} {a:Act} {cs:List Frame} {v:Value} {N0 sb k cap:Nat} {p q:Int} {xs:List Value} {ao:Option Addr} {T:List ByteArray}
theorem Gj(hk:¬(k<T.length))(hK:Kn 74 [(6,.int .i64 ((k:Nat):Int)),(5,v),(2,.pointer (some ⟨sb,0,none⟩)),(1,.slice ao T.length cap)] a)(hF:LI N0 sb p q v k xs S w)(next:∀a' w',Kn 74 [(5,v),(2,.pointer (some ⟨sb,0,none⟩))] a'→LI N0 sb p q v k xs S w'→GE prog true Bs Stop S (G (b3.at a' [.code RA]) cs) w'):GE prog true Bs Stop S (headA a cs) w:=by
 have hk0:(0:Int)≤(k:Int):=by omega
 have hkz:¬((k:Int)<(T.length:Int)):=by omega
 unfold headA;refine au rfl (fun _=>Ce) fun w₁ y=>?_
 replace hF:=hF.rely y
 clear y;unfold LA1;refine au rfl (fun _=>stepG_seq) fun w₁ y=>?_
 replace hF:=hF.rely y
 clear y;refine au rfl (fun _=>stepG_region) fun w₁ y=>?_
 replace hF:=hF.rely y
 clear y;rw[rg3];refine aR hK TR (ai rfl) (by decide) (.inl rfl) (hK.get (List.mem_cons_self)) rfl (by decide) rfl fun a w₁ y hK=>?_
 replace hF:=hF.rely y
 clear y;refine aR hK TT (ai rfl) (by decide) (.inl rfl) (hK.get (List.mem_cons_of_mem _ (List.mem_cons_of_mem _ (List.mem_cons_of_mem _ (List.mem_cons_of_mem _ List.mem_cons_self))))) rfl (by decide) rfl fun a w₁ y hK=>?_
 replace hF:=hF.rely y
 clear y;refine bZ (v:=.int .i64 T.length) hK TU (ai rfl) (by decide) rfl (by decide) rfl (fun w=>by have e0:=hK.at (List.mem_cons_self);constructor<;>(unfold execOp;simp[go_sem,e0])) fun a w₁ y hK=>?_
 replace hF:=hF.rely y
 clear y;refine bZ (v:=.bool false) hK TW (ai rfl) (by decide) rfl (by decide) rfl (fun w=>by have e0:=hK.at (List.mem_cons_of_mem _ (List.mem_cons_of_mem _ List.mem_cons_self));have e1:=hK.at (List.mem_cons_self);constructor<;>(unfold execOp;simp[go_sem,e0,e1,hkz,Nat.not_lt.1 hk,hk])) fun a w₁ y hK=>?_
 replace hF:=hF.rely y
 clear y;refine aR hK TY (ai rfl) (by decide) (.inl rfl) (hK.get (List.mem_cons_self)) rfl (by decide) rfl fun a w₁ y hK=>?_
 replace hF:=hF.rely y
 clear y;refine J9 hK TZ ((hK.wanted (t:=true) rfl rfl (List.mem_cons_self)).trans rfl) rfl (by decide) rfl fun a w₁ y hK=>?_
 replace hF:=hF.rely y
 clear y;refine J9 hK T9 ((hK.wanted (t:=true) rfl rfl (List.mem_cons_of_mem _ List.mem_cons_self)).trans rfl) rfl (by decide) rfl fun a w₁ y hK=>?_
 replace hF:=hF.rely y
 clear y;refine bZ (v:=.bool false) hK T_ (ai rfl) (by decide) rfl (by decide) rfl (fun w=>by have e0:=hK.at (List.mem_cons_of_mem _ (List.mem_cons_of_mem _ List.mem_cons_self));have e1:=hK.at (List.mem_cons_self);constructor<;>(unfold execOp;simp[go_sem,e0,e1])) fun a w₁ y hK=>?_
 replace hF:=hF.rely y
 clear y;refine au rfl (fun _=>stepG_region_end) fun w₁ y=>?_
 replace hF:=hF.rely y
 clear y;refine au rfl (fun _=>stepG_cond (t:=false) (hK.get (List.mem_cons_self))) fun w₁ y=>?_
 replace hF:=hF.rely y
 clear y;simp only[Bool.false_eq_true, ↓reduceIte];refine au rfl (fun _=>stepG_exit rfl) fun w₁ y=>?_
 replace hF:=hF.rely y
 clear y
 replace hK:=hK.sub (L':=[(5,v),(2,.pointer (some ⟨sb,0,none⟩))]) (by intro p hp;simp only[di,eU,eX]at hp ⊢;rcases hp with rfl|rfl<;>simp)
 exact next a w₁ hK hF
theorem Gl(hk:k<T.length)(Le:¬(k<16))(hK:Kn 74 [(6,.int .i64 ((k:Nat):Int)),(5,v),(2,.pointer (some ⟨sb,0,none⟩)),(1,.slice ao T.length cap)] a)(hF:LI N0 sb p q v k xs S w)(next:∀a' w',Kn 74 [(5,v),(2,.pointer (some ⟨sb,0,none⟩))] a'→LI N0 sb p q v k xs S w'→GE prog true Bs Stop S (G (b3.at a' [.code RA]) cs) w'):GE prog true Bs Stop S (headA a cs) w:=by
 have hk0:(0:Int)≤(k:Int):=by omega
 have hkz:(k:Int)<(T.length:Int):=by omega
 have hkq:¬((k:Int)<16):=by omega
 unfold headA;refine au rfl (fun _=>Ce) fun w₁ y=>?_
 replace hF:=hF.rely y
 clear y;unfold LA1;refine au rfl (fun _=>stepG_seq) fun w₁ y=>?_
 replace hF:=hF.rely y
 clear y;refine au rfl (fun _=>stepG_region) fun w₁ y=>?_
 replace hF:=hF.rely y
 clear y;rw[rg3];refine aR hK TR (ai rfl) (by decide) (.inl rfl) (hK.get (List.mem_cons_self)) rfl (by decide) rfl fun a w₁ y hK=>?_
 replace hF:=hF.rely y
 clear y;refine aR hK TT (ai rfl) (by decide) (.inl rfl) (hK.get (List.mem_cons_of_mem _ (List.mem_cons_of_mem _ (List.mem_cons_of_mem _ (List.mem_cons_of_mem _ List.mem_cons_self))))) rfl (by decide) rfl fun a w₁ y hK=>?_
 replace hF:=hF.rely y
 clear y;refine bZ (v:=.int .i64 T.length) hK TU (ai rfl) (by decide) rfl (by decide) rfl (fun w=>by have e0:=hK.at (List.mem_cons_self);constructor<;>(unfold execOp;simp[go_sem,e0])) fun a w₁ y hK=>?_
 replace hF:=hF.rely y
 clear y;refine bZ (v:=.bool true) hK TW (ai rfl) (by decide) rfl (by decide) rfl (fun w=>by have e0:=hK.at (List.mem_cons_of_mem _ (List.mem_cons_of_mem _ List.mem_cons_self));have e1:=hK.at (List.mem_cons_self);constructor<;>(unfold execOp;simp[go_sem,e0,e1,hkz,hk])) fun a w₁ y hK=>?_
 replace hF:=hF.rely y
 clear y;refine aR hK TY (ai rfl) (by decide) (.inl rfl) (hK.get (List.mem_cons_self)) rfl (by decide) rfl fun a w₁ y hK=>?_
 replace hF:=hF.rely y
 clear y;refine aR hK TZ ((hK.wanted (t:=true) rfl rfl (List.mem_cons_self)).trans rfl) (by decide) (.inl rfl) (hK.get (List.mem_cons_of_mem _ (List.mem_cons_of_mem _ (List.mem_cons_of_mem _ (List.mem_cons_of_mem _ (List.mem_cons_of_mem _ List.mem_cons_self)))))) rfl (by decide) rfl fun a w₁ y hK=>?_
 replace hF:=hF.rely y
 clear y;refine bZ (v:=.bool false) hK T9 ((hK.wanted (t:=true) rfl rfl (List.mem_cons_of_mem _ List.mem_cons_self)).trans rfl) (by decide) rfl (by decide) rfl (fun w=>by have e0:=hK.at (List.mem_cons_self);constructor<;>(unfold execOp;simp[go_sem,e0,hkq])) fun a w₁ y hK=>?_
 replace hF:=hF.rely y
 clear y;refine bZ (v:=.bool false) hK T_ (ai rfl) (by decide) rfl (by decide) rfl (fun w=>by have e0:=hK.at (List.mem_cons_of_mem _ (List.mem_cons_of_mem _ List.mem_cons_self));have e1:=hK.at (List.mem_cons_self);constructor<;>(unfold execOp;simp[go_sem,e0,e1])) fun a w₁ y hK=>?_
 replace hF:=hF.rely y
 clear y;refine au rfl (fun _=>stepG_region_end) fun w₁ y=>?_
 replace hF:=hF.rely y
 clear y;refine au rfl (fun _=>stepG_cond (t:=false) (hK.get (List.mem_cons_self))) fun w₁ y=>?_
 replace hF:=hF.rely y
 clear y;simp only[Bool.false_eq_true, ↓reduceIte];refine au rfl (fun _=>stepG_exit rfl) fun w₁ y=>?_
 replace hF:=hF.rely y
 clear y
 replace hK:=hK.sub (L':=[(5,v),(2,.pointer (some ⟨sb,0,none⟩))]) (by intro p hp;simp only[di,eU,eX]at hp ⊢;rcases hp with rfl|rfl<;>simp)
 exact next a w₁ hK hF
theorem Dy(hB:∀b,Bs b↔b<N0)(next:∀a' v' w' S',Kn 74 [(5,v'),(2,.pointer (some ⟨sb,0,none⟩))] a'→LI N0 sb p q v' (min T.length 16) ((T.take (min T.length 16)).map .string) S' w'→GE prog true Bs Stop S' (G (b3.at a' [.code RA]) cs) w'):
 ∀(r k:Nat) (a:Act) (v:Value) (w:World) (S:Nat→Prop),k+r=min T.length 16→Kn 74 [(6,.int .i64 ((k:Nat):Int)),(5,v),(2,.pointer (some ⟨sb,0,none⟩)),(1,.slice ao T.length cap)] a→LI N0 sb p q v k ((T.take k).map .string) S w→TX N0 ao T w→GE prog true Bs Stop S (headA a cs) w:=by
 intro r;induction r with
 |zero=>
  intro k a v w S hk hK hF hX;obtain rfl:k=min T.length 16:=hk;by_cases h:min T.length 16<T.length
  ·exact Gl h (by omega) hK hF fun a' w' h1 h2=>next a' v w' S h1 h2
  ·exact Gj h hK hF fun a' w' h1 h2=>next a' v w' S h1 h2
 |succ r ih=>
  intro k a v w S hk hK hF hX;have h1:k<T.length:=by omega
  have h2:k<16:=by omega
  refine Jh hB h1 h2 (gK h1) hK hF hX fun a' v' w' S' hK' hF' hX'=>ih (k+1) a' v' w' S' (by omega) hK' ?_ hX';have e:(T.take (k+1)).map Value.string=(T.take k).map Value.string++[.string T[k]]:=by rw[yh h1,List.map_append];rfl
  rw[e];exact hF'
end
def StopA (N0:Nat) (p q:Int) (T:List ByteArray) (cs:List Frame) (_:Nat→Prop) (g:Goroutine) (w:World):Prop:=
 ∃a v sb S,g=G (b3.at a [.code RA]) cs∧Kn 74 [(5,v),(2,.pointer (some ⟨sb,0,none⟩))] a∧LI N0 sb p q v (min T.length 16) ((T.take (min T.length 16)).map .string) S w
theorem adj{Bs S:Nat→Prop}{cap:Nat}{p q:Int}{ao:Option Addr}{T:List ByteArray}(hB:∀b,Bs b↔b<N0)(hz:N0≤w.heap.size)(hX:TX N0 ao T w)(hK:Kn 74 [(0,.agg #[.int .i64 p,.int .i64 q]),(1,.slice ao T.length cap)] a):
 GE prog true Bs (StopA N0 p q T cs) S (G (b3.at a [.code lI]) cs) w:=by
 rw[N_];refine au rfl (fun _=>stepG_seq) fun w₁ y=>?_
 replace hX:=hX.rely (fun b hb=>(hB b).2 hb) y
 replace hz:=fA hz y.size
 clear y;refine au rfl (fun _=>stepG_region) fun w₁ y=>?_
 replace hX:=hX.rely (fun b hb=>(hB b).2 hb) y
 replace hz:=fA hz y.size
 clear y;rw[rg0];refine Ow (o₀:=.cells #[.int .i64 p,.int .i64 q] 23) (v:=fun w=>.pointer (some ⟨w.heap.size,0,none⟩)) hK abp (ai rfl) (by decide) rfl (by decide) rfl (fun w=>by have e0:=(hK.at (List.mem_cons_self));constructor<;>(unfold execOp;simp[go_sem,e0])) fun a w₁ S y hS hnw hK=>?_
 replace hX:=(hX.rely (fun b hb=>(hB b).2 hb) y).new (fA hz y.size) (.cells #[.int .i64 p,.int .i64 q] 23)
 have hF:LI N0 w₁.heap.size p q (.slice none 0 0) 0 [] S (w₁.alloc (.cells #[.int .i64 p,.int .i64 q] 23)):=⟨⟨rfl,.inl ⟨rfl,rfl⟩⟩,fun g hg=>by simp[Value.ownBlock]at hg,bJ _ _,hnw,by simp;exact Nat.le_succ_of_le (fA hz y.size),fA hz y.size⟩;clear hS hnw y;generalize w₁.heap.size=sb at hF hK;generalize (w₁.alloc (.cells #[.int .i64 p,.int .i64 q] 23))=w at hF hX ⊢;refine aR (v:=.bool false) hK abq (ai rfl) (by decide) (.inr rfl) rfl rfl (by decide) rfl fun a w₁ y hK=>?_
 replace hF:=hF.rely y
 replace hX:=hX.rely (fun b hb=>(hB b).2 hb) y
 clear y;refine au rfl (fun _=>stepG_region_end) fun w₁ y=>?_
 replace hF:=hF.rely y
 replace hX:=hX.rely (fun b hb=>(hB b).2 hb) y
 clear y;refine au rfl (fun _=>stepG_seq) fun w₁ y=>?_
 replace hF:=hF.rely y
 replace hX:=hX.rely (fun b hb=>(hB b).2 hb) y
 clear y;refine au rfl (fun _=>stepG_region) fun w₁ y=>?_
 replace hF:=hF.rely y
 replace hX:=hX.rely (fun b hb=>(hB b).2 hb) y
 clear y;rw[rg1];refine aR (v:=.slice none 0 0) hK abr (ai rfl) (by decide) (.inr rfl) rfl rfl (by decide) rfl fun a w₁ y hK=>?_
 replace hF:=hF.rely y
 replace hX:=hX.rely (fun b hb=>(hB b).2 hb) y
 clear y;refine au rfl (fun _=>stepG_region_end) fun w₁ y=>?_
 replace hF:=hF.rely y
 replace hX:=hX.rely (fun b hb=>(hB b).2 hb) y
 clear y;refine au rfl (fun _=>stepG_seq) fun w₁ y=>?_
 replace hF:=hF.rely y
 replace hX:=hX.rely (fun b hb=>(hB b).2 hb) y
 clear y;refine au rfl (fun _=>stepG_seq) fun w₁ y=>?_
 replace hF:=hF.rely y
 replace hX:=hX.rely (fun b hb=>(hB b).2 hb) y
 clear y;refine au rfl (fun _=>stepG_region) fun w₁ y=>?_
 replace hF:=hF.rely y
 replace hX:=hX.rely (fun b hb=>(hB b).2 hb) y
 clear y;rw[rg2];refine aR (v:=.int .i64 0) hK abt (ai rfl) (by decide) (.inr rfl) rfl rfl (by decide) rfl fun a w₁ y hK=>?_
 replace hF:=hF.rely y
 replace hX:=hX.rely (fun b hb=>(hB b).2 hb) y
 clear y;refine au rfl (fun _=>stepG_region_end) fun w₁ y=>?_
 replace hF:=hF.rely y
 replace hX:=hX.rely (fun b hb=>(hB b).2 hb) y
 clear y;refine au rfl (fun _=>stepG_block) fun w₁ y=>?_
 replace hF:=hF.rely y
 replace hX:=hX.rely (fun b hb=>(hB b).2 hb) y
 clear y;refine au rfl (fun _=>stepG_loop) fun w₁ y=>?_
 replace hF:=hF.rely y
 replace hX:=hX.rely (fun b hb=>(hB b).2 hb) y
 clear y
 replace hK:=hK.sub (L':=[(6,.int .i64 0),(5,.slice none 0 0),(2,.pointer (some ⟨sb,0,none⟩)),(1,.slice ao T.length cap)]) (by intro p hp;simp only[di,eU,eX]at hp ⊢;rcases hp with rfl|rfl|rfl|rfl<;>simp)
 exact Dy hB (fun a' v' w' S' h1 h2=>GE.stop fun w₂ y₂=>⟨a',v',sb,S',rfl,h1,h2.rely y₂⟩) (min T.length 16) 0 a _ w₁ S (lG _) hK hF hX
open Go.ConcR (KK wgBlock WgAt stA smA rd wr Payload Aside2 DC0 ofEvent_cell)
set_option linter.unusedSimpArgs false
set_option linter.unusedVariables false
def KC (Stop:(Nat→Prop)→Goroutine→World→Prop):Prop:=∀S S' g w,Stop S g w→Stop S' g w
section
variable {main:Bool} {Bs S:Nat→Prop} {Stop:(Nat→Prop)→Goroutine→World→Prop} {g:Goroutine} {w:World}
theorem gef(hS:KC Stop)(h:GE prog main (fun b=>Bs b∨S b) Stop (fun _=>False) g w):GE prog main Bs Stop S g w:=by
 have e:(fun b=>False∨S b)=S:=by funext b;simp
 have:=GE.frame (Bs:=Bs) (S:=fun _=>False) (X:=S) (Stop':=Stop) (fun ae9 g w x=>hS _ _ g w x) h;rw[e]at this;exact this
theorem jv{L:Nat}{π:Nat→Nat}{V:World}(h:HR L π V w){b:Nat}(hb:own L π V b):b<w.heap.size:=by obtain⟨i,_,h2,rfl⟩:=hb;exact h.range i h2
end
structure FG (F:World→Prop):Prop where
 g:∀w,F w→fD w
 t:∀w,F w→iE w
section
variable {Bs:Nat→Prop} {Stop:(Nat→Prop)→Goroutine→World→Prop} {w:World} {b:Frame} {a:Act} {kk:List Item} {cs:List Frame} {ops:Array Oper} {i:Nat} {rest:List Nat} {o:Oper} {F:World→Prop}
theorem J5{f:FuncId}{fn:Func}{jW:Array Value}{XF:Array Operand}{ats:Array TypeId}{v:Value}(hS:KC Stop)(h7:∀b,b<7→Bs b)(hF:Ec Bs F)(hG:FG F)(hf:Wd f=true)(hroot:∀fn,prog.funcs[f]? =some fn→fn.results.all oM=true)(hmv:∀ρ,jW.map (mv ρ)=jW)(hv:∀ρ,mv ρ v=v)(hc:∀V t d,iE V→Calls prog f jW (on V t d) fun e _=>e= .returned v)(ho:ops[i]? =some o)(hw:Region.wanted o (yielded ops a.tmps)=true)(hk:b.kind≠ .early)(hop:o.op= .call {callee:=.value (.func f),args:=XF,argTypes:=ats})(hfn:prog.funcs[f]? =some fn)(hname:(fn.name== "runtime.NumGoroutine")=false)(hb:fn.body.isNone=false)(hargs:XF.map a.eval=jW)(hd:∀x,Bs x→x<w.heap.size)(h0:F w)(next:∀Qm w',(∀b,Bs b→Qm b)→(∀b,Qm b→b<w'.heap.size)→F w'→GE prog true Qm Stop (fun _=>False) (G (b.at (a.put o.dst v) (.inRegion ops rest::kk)) cs) w'):
 GE prog true Bs Stop (fun _=>False) (G (b.at a (.inRegion ops (i::rest)::kk)) cs) w:=by
 have hown:=Bo (hG.g w h0);rw[←hown];refine rQ Lj h7 hF (Post:=fun x _=>x=v) (fun _ _ _ _ x=>x) (jW:=jW) hf hroot (qO (hG.g w h0)).np (fun τ eY=>⟨nK (hG.g w h0) τ eY,hmv τ⟩) (fun t d=>(hc (qR w) t d (zK (hG.t w h0))).mono fun e w' x=>⟨v,x,rfl⟩) (qO (hG.g w h0)) ho hw hk hop hfn hname hb (fun w₁ ρ e=>by rw[hmv];exact hargs) (fun x hx=>⟨hd x hx,fun y=>by rw[hown]at y;exact y⟩) h0 ?_;intro zU V' v' w' hr' _ ht hF' hd';have hv':v'=v:=ht.1;subst hv';rw[hv];exact gef hS (next _ w' (fun b hb=>.inl hb) (fun b hb=>hb.elim (fun x=>(hd' b x).1) (jv hr')) hF')
end
def xI (p q:Int) (v:Value):Nat→Value
 | 0=>.agg #[.int .i64 p,.int .i64 q]
 | 1=>.int .i64 (nA p:Int)
 | 2=>.agg #[.int .i64 p,.int .i64 q]
 | 3=>.int .i64 (ny q:Int)
 |_=>v
def L6 (p q:Int) (v:Value) (sb:Nat) (D:Nat→Bool):List (Nat × Value):=(5,v)::(2,.pointer (some ⟨sb,0,none⟩))::((List.range 5).filter D).map fun i=>(31+i,xI p q v i)
def FK (D:Nat→Bool) (i:Nat):Nat→Bool:=fun j=>Nat.beq j i||D j
def Mr:List (List Nat):=[[6,7,8,9,10],[6,7,9,8,10],[6,8,7,9,10]]
def ZK:(Nat→Bool)→List Nat→Bool
 |D,i::l=>if Nat.beq i 5 then D 1&&D 3&&D 4&&Mr.contains l else Nat.ble i 4&& !D i&&(!Nat.beq i 1||D 0)&&(!Nat.beq i 3||D 2)&&ZK (FK D i) l
 |_,[]=>false
theorem abm:(qH e6 e6.size (Array.replicate e6.size false)).all (ZK fun _=>false)=true:=by kernel_rfl
section
variable {p q:Int} {v:Value} {sb:Nat} {D:Nat→Bool} {a:Act}
theorem O3{i:Nat}(hi:i<5)(hD:D i=true):(31+i,xI p q v i)∈L6 p q v sb D:=by refine List.mem_cons_of_mem _ (List.mem_cons_of_mem _ (List.mem_map.2 ⟨i,List.mem_filter.2 ⟨List.mem_range.2 hi,hD⟩,rfl⟩))
theorem UL{i:Nat}(hi:i<5)(hD:D i=false):((L6 p q v sb D).all fun x=>x.1 != 31+i)=true:=by
 rw[List.all_eq_true];intro x hx;simp only[L6,di,List.mem_map,List.mem_filter,List.mem_range]at hx;rcases hx with rfl|rfl|⟨j,⟨hj,Wi⟩,rfl⟩
 ·simp;omega
 ·simp;omega
 ·simp only[bne_iff_ne,ne_eq];intro e;have:j=i:=by omega
  subst this;rw[hD]at Wi;cases Wi
theorem ZB{i:Nat}(hi:i<5){n:Nat}(h:Kn n ((31+i,xI p q v i)::L6 p q v sb D) a):Kn n (L6 p q v sb (FK D i)) a:=by
 refine h.sub fun x hx=>?_;simp only[L6,di,List.mem_map,List.mem_filter,List.mem_range,FK,Bool.or_eq_true]at hx ⊢;rcases hx with rfl|rfl|⟨j,⟨hj,Wi⟩,rfl⟩
 ·exact .inr (.inl rfl)
 ·exact .inr (.inr (.inl rfl))
 ·rcases Wi with e|Wi
  ·have e:=Nat.eq_of_beq_eq_true e;subst e;exact .inl rfl
  ·exact .inr (.inr (.inr ⟨j,⟨hj,Wi⟩,rfl⟩))
end
end Go.Proofs.YtheibfffilomcabGreatDoor
