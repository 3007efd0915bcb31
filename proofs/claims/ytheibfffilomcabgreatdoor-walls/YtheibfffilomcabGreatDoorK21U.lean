import Derived.Test.YtheibfffilomcabGreatDoorEvnU
import Derived.Test.YtheibfffilomcabGreatDoorK17U
set_option linter.all false
set_option maxRecDepth 100000
set_option maxHeartbeats 4000000
namespace Go.Proofs.YtheibfffilomcabGreatDoor
open Go.Ren Go.Conc Go.ConcN Go.RowKit Go.Conc.Lib Go.ConcR.Gen Go.ConcN.Gen Go.Proofs.Tryz
variable {N0:Nat} {p q:Int} {w:World} {main:Bool} {cs:List Frame} {S:Nat→Prop} {a:Act} {P:Program} {Stop Stop':(Nat→Prop)→Goroutine→World→Prop}
open Go.ConcR (KK wgBlock WgAt stA smA rd wr Payload Aside2 DC0 ofEvent_cell)
set_option linter.unusedSimpArgs false
set_option linter.unusedVariables false
noncomputable def LA1:Code:=.seq (.region 3 e3 false) (.cond (.tmp 20) .skip (.exit 0))
noncomputable def LA2:Code:=.seq (.block 1 (.region 5 e5 false)) (.region 4 e4 false)
theorem Cc{b:Frame}{k:List Item}:stepG prog main (G (b.at a (.code LA::k)) cs) w= .go (G (b.at a (.code LA1:: .code LA2::k)) cs) w #[]:=by rw[Xm];exact stepG_seq
noncomputable def headA (a:Act) (cs:List Frame):Goroutine:=G (b3.at a [.code LA,.inLoop LA,.inBlock 0,.code RA]) cs
section
variable {Bs S:Nat→Prop} {Stop:(Nat→Prop)→Goroutine→World→Prop} {w:World} {a:Act} {cs:List Frame} {v:Value} {N0 sb k cap:Nat} {p q:Int} {xs:List Value} {ao:Option Addr} {T:List ByteArray}
theorem Jf{t:ByteArray}(hB:∀b,Bs b↔b<N0)(hk:k<T.length)(Lb:k<16)(ht:T[k]? =some t)(hK:Kn 74 [(6,.int .i64 ((k:Nat):Int)),(5,v),(2,.pointer (some ⟨sb,0,none⟩)),(1,.slice ao T.length cap)] a)(hF:LI N0 sb p q v k xs S w)(hX:TX N0 ao T w)(next:∀a' v' w' S',Kn 74 [(6,.int .i64 ((k+1:Nat):Int)),(5,v'),(2,.pointer (some ⟨sb,0,none⟩)),(1,.slice ao T.length cap)] a'→LI N0 sb p q v' (k+1) (xs++[.string t]) S' w'→TX N0 ao T w'→GE prog true Bs Stop S' (headA a' cs) w'):
 GE prog true Bs Stop S (headA a cs) w:=by
 have hkz:(k:Int)<(T.length:Int):=by omega
 have hk0:(0:Int)≤(k:Int):=by omega
 have hkq:(k:Int)<16:=by omega
 have hw1:IntKind.i64.wrap ((k:Int)+1)=(k:Int)+1:=by rw[IntKind.wrap_i64];omega
 obtain⟨bb,oo,rfl,hbb,hcell⟩:=hX k t ht;unfold headA;refine au rfl (fun _=>Cc) fun w₁ y=>?_
 replace hF:=hF.rely y
 replace hX:=hX.rely (fun b hb=>(hB b).2 hb) y
 clear y;unfold LA1;refine au rfl (fun _=>stepG_seq) fun w₁ y=>?_
 replace hF:=hF.rely y
 replace hX:=hX.rely (fun b hb=>(hB b).2 hb) y
 clear y;refine au rfl (fun _=>stepG_region) fun w₁ y=>?_
 replace hF:=hF.rely y
 replace hX:=hX.rely (fun b hb=>(hB b).2 hb) y
 clear y;rw[rg3];refine aR hK TK (ai rfl) (by decide) (.inl rfl) (hK.get (List.mem_cons_self)) rfl (by decide) rfl fun a w₁ y hK=>?_
 replace hF:=hF.rely y
 replace hX:=hX.rely (fun b hb=>(hB b).2 hb) y
 clear y;refine aR hK TL (ai rfl) (by decide) (.inl rfl) (hK.get (List.mem_cons_of_mem _ (List.mem_cons_of_mem _ (List.mem_cons_of_mem _ (List.mem_cons_of_mem _ List.mem_cons_self))))) rfl (by decide) rfl fun a w₁ y hK=>?_
 replace hF:=hF.rely y
 replace hX:=hX.rely (fun b hb=>(hB b).2 hb) y
 clear y;refine bZ (v:=.int .i64 T.length) hK TM (ai rfl) (by decide) rfl (by decide) rfl (fun w=>by have e0:=hK.at (List.mem_cons_self);constructor<;>(unfold execOp;simp[go_sem,e0])) fun a w₁ y hK=>?_
 replace hF:=hF.rely y
 replace hX:=hX.rely (fun b hb=>(hB b).2 hb) y
 clear y;refine bZ (v:=.bool true) hK TN (ai rfl) (by decide) rfl (by decide) rfl (fun w=>by have e0:=hK.at (List.mem_cons_of_mem _ (List.mem_cons_of_mem _ List.mem_cons_self));have e1:=hK.at (List.mem_cons_self);constructor<;>(unfold execOp;simp[go_sem,e0,e1,hkz,hk])) fun a w₁ y hK=>?_
 replace hF:=hF.rely y
 replace hX:=hX.rely (fun b hb=>(hB b).2 hb) y
 clear y;refine aR hK TR (ai rfl) (by decide) (.inl rfl) (hK.get (List.mem_cons_self)) rfl (by decide) rfl fun a w₁ y hK=>?_
 replace hF:=hF.rely y
 replace hX:=hX.rely (fun b hb=>(hB b).2 hb) y
 clear y;refine aR hK TT ((hK.wanted (t:=true) rfl rfl (List.mem_cons_self)).trans rfl) (by decide) (.inl rfl) (hK.get (List.mem_cons_of_mem _ (List.mem_cons_of_mem _ (List.mem_cons_of_mem _ (List.mem_cons_of_mem _ (List.mem_cons_of_mem _ List.mem_cons_self)))))) rfl (by decide) rfl fun a w₁ y hK=>?_
 replace hF:=hF.rely y
 replace hX:=hX.rely (fun b hb=>(hB b).2 hb) y
 clear y;refine bZ (v:=.bool true) hK TU ((hK.wanted (t:=true) rfl rfl (List.mem_cons_of_mem _ List.mem_cons_self)).trans rfl) (by decide) rfl (by decide) rfl (fun w=>by have e0:=hK.at (List.mem_cons_self);constructor<;>(unfold execOp;simp[go_sem,e0,hkq])) fun a w₁ y hK=>?_
 replace hF:=hF.rely y
 replace hX:=hX.rely (fun b hb=>(hB b).2 hb) y
 clear y;refine bZ (v:=.bool true) hK TW (ai rfl) (by decide) rfl (by decide) rfl (fun w=>by have e0:=hK.at (List.mem_cons_of_mem _ (List.mem_cons_of_mem _ List.mem_cons_self));have e1:=hK.at (List.mem_cons_self);constructor<;>(unfold execOp;simp[go_sem,e0,e1])) fun a w₁ y hK=>?_
 replace hF:=hF.rely y
 replace hX:=hX.rely (fun b hb=>(hB b).2 hb) y
 clear y;refine au rfl (fun _=>stepG_region_end) fun w₁ y=>?_
 replace hF:=hF.rely y
 replace hX:=hX.rely (fun b hb=>(hB b).2 hb) y
 clear y;refine au rfl (fun _=>stepG_cond (t:=true) (hK.get (List.mem_cons_self))) fun w₁ y=>?_
 replace hF:=hF.rely y
 replace hX:=hX.rely (fun b hb=>(hB b).2 hb) y
 clear y;simp only[↓reduceIte];refine au rfl (fun _=>stepG_skip) fun w₁ y=>?_
 replace hF:=hF.rely y
 replace hX:=hX.rely (fun b hb=>(hB b).2 hb) y
 clear y;unfold LA2;refine au rfl (fun _=>stepG_seq) fun w₁ y=>?_
 replace hF:=hF.rely y
 replace hX:=hX.rely (fun b hb=>(hB b).2 hb) y
 clear y;refine au rfl (fun _=>stepG_block) fun w₁ y=>?_
 replace hF:=hF.rely y
 replace hX:=hX.rely (fun b hb=>(hB b).2 hb) y
 clear y;refine au rfl (fun _=>stepG_region) fun w₁ y=>?_
 replace hF:=hF.rely y
 replace hX:=hX.rely (fun b hb=>(hB b).2 hb) y
 clear y;rw[rg5];refine aR hK abr (ai rfl) (by decide) (.inl rfl) (hK.get (List.mem_cons_of_mem _ (List.mem_cons_of_mem _ (List.mem_cons_of_mem _ (List.mem_cons_of_mem _ (List.mem_cons_of_mem _ (List.mem_cons_of_mem _ (List.mem_cons_of_mem _ (List.mem_cons_of_mem _ (List.mem_cons_of_mem _ List.mem_cons_self)))))))))) rfl (by decide) rfl fun a w₁ y hK=>?_
 replace hF:=hF.rely y
 replace hX:=hX.rely (fun b hb=>(hB b).2 hb) y
 clear y;refine aR hK abt (ai rfl) (by decide) (.inl rfl) (hK.get (List.mem_cons_of_mem _ (List.mem_cons_of_mem _ (List.mem_cons_of_mem _ (List.mem_cons_of_mem _ (List.mem_cons_of_mem _ (List.mem_cons_of_mem _ (List.mem_cons_of_mem _ (List.mem_cons_of_mem _ (List.mem_cons_of_mem _ (List.mem_cons_of_mem _ (List.mem_cons_of_mem _ (List.mem_cons_of_mem _ List.mem_cons_self))))))))))))) rfl (by decide) rfl fun a w₁ y hK=>?_
 replace hF:=hF.rely y
 replace hX:=hX.rely (fun b hb=>(hB b).2 hb) y
 clear y;refine aR hK abu (ai rfl) (by decide) (.inl rfl) (hK.get (List.mem_cons_of_mem _ (List.mem_cons_of_mem _ (List.mem_cons_of_mem _ (List.mem_cons_of_mem _ (List.mem_cons_of_mem _ (List.mem_cons_of_mem _ (List.mem_cons_of_mem _ (List.mem_cons_of_mem _ (List.mem_cons_of_mem _ (List.mem_cons_of_mem _ List.mem_cons_self))))))))))) rfl (by decide) rfl fun a w₁ y hK=>?_
 replace hF:=hF.rely y
 replace hX:=hX.rely (fun b hb=>(hB b).2 hb) y
 clear y;refine bZ (v:=.pointer (some ⟨bb,oo+k,none⟩)) hK abv (ai rfl) (by decide) rfl (by decide) rfl (fun w=>by have e0:=hK.at (List.mem_cons_of_mem _ List.mem_cons_self);have e1:=hK.at (List.mem_cons_self);constructor<;>(unfold execOp;simp[go_sem,e0,e1,hk,hkz,hk0,Addr.add])) fun a w₁ y hK=>?_
 replace hF:=hF.rely y
 replace hX:=hX.rely (fun b hb=>(hB b).2 hb) y
 clear y;refine J5 (.inr (.inl rfl)) hK abw (ai rfl) (by decide) rfl (hK.get (List.mem_cons_self)) (.inl ((hB bb).2 hbb)) (fun w₁ y=>(hX.rely (fun b hb=>(hB b).2 hb) y).at ht) xu rfl (by decide) rfl fun a w₁ y hK=>?_
 replace hF:=hF.rely y
 replace hX:=hX.rely (fun b hb=>(hB b).2 hb) y
 clear y;refine Ot (o₀:=.cells #[.string t] 9) (v:=fun w=>.slice (some ⟨w.heap.size,0,none⟩) 1 1) hK abx (ai rfl) (by decide) rfl (by decide) rfl (fun w=>by have e0:=(hK.at (List.mem_cons_self));constructor<;>(unfold execOp;simp[go_sem,e0])) fun a w₁ S y hS hnw hK=>?_
 replace hX:=(hX.rely (fun b hb=>(hB b).2 hb) y).new (hF.rely y).lo (.cells #[.string t] 9)
 replace hF:=(hF.rely y).new hS (.cells #[.string t] 9)
 have htb:=bJ w₁ (.cells #[.string t] 9);clear y;refine K8 (k:=k) (t:=t) (tb:=w₁.heap.size) hB hK aby (ai rfl) (by decide) rfl (hK.get (List.mem_cons_of_mem _ (List.mem_cons_of_mem _ (List.mem_cons_of_mem _ (List.mem_cons_of_mem _ (List.mem_cons_of_mem _ List.mem_cons_self)))))) (hK.get (List.mem_cons_self)) hF hX htb hnw Lb xu rfl (by decide) rfl fun a v w S hF hX hK=>?_
 replace hK:=hK.sub (L':=[(29,v),(6,.int .i64 ((k:Nat):Int)),(2,.pointer (some ⟨sb,0,none⟩)),(1,.slice (some ⟨bb,oo,none⟩) T.length cap)]) (by intro p hp;simp only[di,eU,eX]at hp ⊢;rcases hp with rfl|rfl|rfl|rfl<;>simp)
 refine aR hK abz (ai rfl) (by decide) (.inr rfl) (hK.get (List.mem_cons_self)) rfl (by decide) rfl fun a w₁ y hK=>?_
 replace hF:=hF.rely y
 replace hX:=hX.rely (fun b hb=>(hB b).2 hb) y
 clear y;refine au rfl (fun _=>stepG_region_end) fun w₁ y=>?_
 replace hF:=hF.rely y
 replace hX:=hX.rely (fun b hb=>(hB b).2 hb) y
 clear y;refine au rfl (fun _=>stepG_inBlock) fun w₁ y=>?_
 replace hF:=hF.rely y
 replace hX:=hX.rely (fun b hb=>(hB b).2 hb) y
 clear y;refine au rfl (fun _=>stepG_region) fun w₁ y=>?_
 replace hF:=hF.rely y
 replace hX:=hX.rely (fun b hb=>(hB b).2 hb) y
 clear y;rw[rg4];refine aR hK abo (ai rfl) (by decide) (.inl rfl) (hK.get (List.mem_cons_of_mem _ (List.mem_cons_of_mem _ List.mem_cons_self))) rfl (by decide) rfl fun a w₁ y hK=>?_
 replace hF:=hF.rely y
 replace hX:=hX.rely (fun b hb=>(hB b).2 hb) y
 clear y;refine bZ (v:=.int .i64 ((k+1:Nat):Int)) hK abp (ai rfl) (by decide) rfl (by decide) rfl (fun w=>by have e0:=hK.at (List.mem_cons_self);constructor<;>(unfold execOp;simp[go_sem,e0,hw1])) fun a w₁ y hK=>?_
 replace hF:=hF.rely y
 replace hX:=hX.rely (fun b hb=>(hB b).2 hb) y
 clear y
 replace hK:=hK.sub (L':=[(22,.int .i64 ((k+1:Nat):Int)),(5,v),(2,.pointer (some ⟨sb,0,none⟩)),(1,.slice (some ⟨bb,oo,none⟩) T.length cap)]) (by intro p hp;simp only[di,eU,eX]at hp ⊢;rcases hp with rfl|rfl|rfl|rfl<;>simp)
 refine aR hK abq (ai rfl) (by decide) (.inr rfl) (hK.get (List.mem_cons_self)) rfl (by decide) rfl fun a w₁ y hK=>?_
 replace hF:=hF.rely y
 replace hX:=hX.rely (fun b hb=>(hB b).2 hb) y
 clear y
 replace hK:=hK.sub (L':=[(6,.int .i64 ((k+1:Nat):Int)),(5,v),(2,.pointer (some ⟨sb,0,none⟩)),(1,.slice (some ⟨bb,oo,none⟩) T.length cap)]) (by intro p hp;simp only[di,eU,eX]at hp ⊢;rcases hp with rfl|rfl|rfl|rfl<;>simp)
 refine au rfl (fun _=>stepG_region_end) fun w₁ y=>?_
 replace hF:=hF.rely y
 replace hX:=hX.rely (fun b hb=>(hB b).2 hb) y
 clear y;refine au rfl (fun _=>stepG_inLoop) fun w₁ y=>?_
 replace hF:=hF.rely y
 replace hX:=hX.rely (fun b hb=>(hB b).2 hb) y
 clear y;exact next a v w₁ S hK hF hX
end
open Go.ConcR (KK wgBlock WgAt stA smA rd wr Payload Aside2 DC0 ofEvent_cell)
set_option linter.unusedSimpArgs false
set_option linter.unusedVariables false
section
variable {Bs S:Nat→Prop} {Stop:(Nat→Prop)→Goroutine→World→Prop} {w:World} {a:Act} {cs:List Frame} {v:Value} {N0 sb k cap:Nat} {p q:Int} {xs:List Value} {ao:Option Addr} {T:List ByteArray}
theorem Gh(hk:¬(k<T.length))(hK:Kn 74 [(6,.int .i64 ((k:Nat):Int)),(5,v),(2,.pointer (some ⟨sb,0,none⟩)),(1,.slice ao T.length cap)] a)(hF:LI N0 sb p q v k xs S w)(next:∀a' w',Kn 74 [(5,v),(2,.pointer (some ⟨sb,0,none⟩))] a'→LI N0 sb p q v k xs S w'→GE prog true Bs Stop S (G (b3.at a' [.code RA]) cs) w'):GE prog true Bs Stop S (headA a cs) w:=by
 have hk0:(0:Int)≤(k:Int):=by omega
 have hkz:¬((k:Int)<(T.length:Int)):=by omega
 unfold headA;refine au rfl (fun _=>Cc) fun w₁ y=>?_
 replace hF:=hF.rely y
 clear y;unfold LA1;refine au rfl (fun _=>stepG_seq) fun w₁ y=>?_
 replace hF:=hF.rely y
 clear y;refine au rfl (fun _=>stepG_region) fun w₁ y=>?_
 replace hF:=hF.rely y
 clear y;rw[rg3];refine aR hK TK (ai rfl) (by decide) (.inl rfl) (hK.get (List.mem_cons_self)) rfl (by decide) rfl fun a w₁ y hK=>?_
 replace hF:=hF.rely y
 clear y;refine aR hK TL (ai rfl) (by decide) (.inl rfl) (hK.get (List.mem_cons_of_mem _ (List.mem_cons_of_mem _ (List.mem_cons_of_mem _ (List.mem_cons_of_mem _ List.mem_cons_self))))) rfl (by decide) rfl fun a w₁ y hK=>?_
 replace hF:=hF.rely y
 clear y;refine bZ (v:=.int .i64 T.length) hK TM (ai rfl) (by decide) rfl (by decide) rfl (fun w=>by have e0:=hK.at (List.mem_cons_self);constructor<;>(unfold execOp;simp[go_sem,e0])) fun a w₁ y hK=>?_
 replace hF:=hF.rely y
 clear y;refine bZ (v:=.bool false) hK TN (ai rfl) (by decide) rfl (by decide) rfl (fun w=>by have e0:=hK.at (List.mem_cons_of_mem _ (List.mem_cons_of_mem _ List.mem_cons_self));have e1:=hK.at (List.mem_cons_self);constructor<;>(unfold execOp;simp[go_sem,e0,e1,hkz,Nat.not_lt.1 hk,hk])) fun a w₁ y hK=>?_
 replace hF:=hF.rely y
 clear y;refine aR hK TR (ai rfl) (by decide) (.inl rfl) (hK.get (List.mem_cons_self)) rfl (by decide) rfl fun a w₁ y hK=>?_
 replace hF:=hF.rely y
 clear y;refine J6 hK TT ((hK.wanted (t:=true) rfl rfl (List.mem_cons_self)).trans rfl) rfl (by decide) rfl fun a w₁ y hK=>?_
 replace hF:=hF.rely y
 clear y;refine J6 hK TU ((hK.wanted (t:=true) rfl rfl (List.mem_cons_of_mem _ List.mem_cons_self)).trans rfl) rfl (by decide) rfl fun a w₁ y hK=>?_
 replace hF:=hF.rely y
 clear y;refine bZ (v:=.bool false) hK TW (ai rfl) (by decide) rfl (by decide) rfl (fun w=>by have e0:=hK.at (List.mem_cons_of_mem _ (List.mem_cons_of_mem _ List.mem_cons_self));have e1:=hK.at (List.mem_cons_self);constructor<;>(unfold execOp;simp[go_sem,e0,e1])) fun a w₁ y hK=>?_
 replace hF:=hF.rely y
 clear y;refine au rfl (fun _=>stepG_region_end) fun w₁ y=>?_
 replace hF:=hF.rely y
 clear y;refine au rfl (fun _=>stepG_cond (t:=false) (hK.get (List.mem_cons_self))) fun w₁ y=>?_
 replace hF:=hF.rely y
 clear y;simp only[Bool.false_eq_true, ↓reduceIte];refine au rfl (fun _=>stepG_exit rfl) fun w₁ y=>?_
 replace hF:=hF.rely y
 clear y
 replace hK:=hK.sub (L':=[(5,v),(2,.pointer (some ⟨sb,0,none⟩))]) (by intro p hp;simp only[di,eU,eX]at hp ⊢;rcases hp with rfl|rfl<;>simp)
 exact next a w₁ hK hF
theorem Gi(hk:k<T.length)(Lb:¬(k<16))(hK:Kn 74 [(6,.int .i64 ((k:Nat):Int)),(5,v),(2,.pointer (some ⟨sb,0,none⟩)),(1,.slice ao T.length cap)] a)(hF:LI N0 sb p q v k xs S w)(next:∀a' w',Kn 74 [(5,v),(2,.pointer (some ⟨sb,0,none⟩))] a'→LI N0 sb p q v k xs S w'→GE prog true Bs Stop S (G (b3.at a' [.code RA]) cs) w'):GE prog true Bs Stop S (headA a cs) w:=by
 have hk0:(0:Int)≤(k:Int):=by omega
 have hkz:(k:Int)<(T.length:Int):=by omega
 have hkq:¬((k:Int)<16):=by omega
 unfold headA;refine au rfl (fun _=>Cc) fun w₁ y=>?_
 replace hF:=hF.rely y
 clear y;unfold LA1;refine au rfl (fun _=>stepG_seq) fun w₁ y=>?_
 replace hF:=hF.rely y
 clear y;refine au rfl (fun _=>stepG_region) fun w₁ y=>?_
 replace hF:=hF.rely y
 clear y;rw[rg3];refine aR hK TK (ai rfl) (by decide) (.inl rfl) (hK.get (List.mem_cons_self)) rfl (by decide) rfl fun a w₁ y hK=>?_
 replace hF:=hF.rely y
 clear y;refine aR hK TL (ai rfl) (by decide) (.inl rfl) (hK.get (List.mem_cons_of_mem _ (List.mem_cons_of_mem _ (List.mem_cons_of_mem _ (List.mem_cons_of_mem _ List.mem_cons_self))))) rfl (by decide) rfl fun a w₁ y hK=>?_
 replace hF:=hF.rely y
 clear y;refine bZ (v:=.int .i64 T.length) hK TM (ai rfl) (by decide) rfl (by decide) rfl (fun w=>by have e0:=hK.at (List.mem_cons_self);constructor<;>(unfold execOp;simp[go_sem,e0])) fun a w₁ y hK=>?_
 replace hF:=hF.rely y
 clear y;refine bZ (v:=.bool true) hK TN (ai rfl) (by decide) rfl (by decide) rfl (fun w=>by have e0:=hK.at (List.mem_cons_of_mem _ (List.mem_cons_of_mem _ List.mem_cons_self));have e1:=hK.at (List.mem_cons_self);constructor<;>(unfold execOp;simp[go_sem,e0,e1,hkz,hk])) fun a w₁ y hK=>?_
 replace hF:=hF.rely y
 clear y;refine aR hK TR (ai rfl) (by decide) (.inl rfl) (hK.get (List.mem_cons_self)) rfl (by decide) rfl fun a w₁ y hK=>?_
 replace hF:=hF.rely y
 clear y;refine aR hK TT ((hK.wanted (t:=true) rfl rfl (List.mem_cons_self)).trans rfl) (by decide) (.inl rfl) (hK.get (List.mem_cons_of_mem _ (List.mem_cons_of_mem _ (List.mem_cons_of_mem _ (List.mem_cons_of_mem _ (List.mem_cons_of_mem _ List.mem_cons_self)))))) rfl (by decide) rfl fun a w₁ y hK=>?_
 replace hF:=hF.rely y
 clear y;refine bZ (v:=.bool false) hK TU ((hK.wanted (t:=true) rfl rfl (List.mem_cons_of_mem _ List.mem_cons_self)).trans rfl) (by decide) rfl (by decide) rfl (fun w=>by have e0:=hK.at (List.mem_cons_self);constructor<;>(unfold execOp;simp[go_sem,e0,hkq])) fun a w₁ y hK=>?_
 replace hF:=hF.rely y
 clear y;refine bZ (v:=.bool false) hK TW (ai rfl) (by decide) rfl (by decide) rfl (fun w=>by have e0:=hK.at (List.mem_cons_of_mem _ (List.mem_cons_of_mem _ List.mem_cons_self));have e1:=hK.at (List.mem_cons_self);constructor<;>(unfold execOp;simp[go_sem,e0,e1])) fun a w₁ y hK=>?_
 replace hF:=hF.rely y
 clear y;refine au rfl (fun _=>stepG_region_end) fun w₁ y=>?_
 replace hF:=hF.rely y
 clear y;refine au rfl (fun _=>stepG_cond (t:=false) (hK.get (List.mem_cons_self))) fun w₁ y=>?_
 replace hF:=hF.rely y
 clear y;simp only[Bool.false_eq_true, ↓reduceIte];refine au rfl (fun _=>stepG_exit rfl) fun w₁ y=>?_
 replace hF:=hF.rely y
 clear y
 replace hK:=hK.sub (L':=[(5,v),(2,.pointer (some ⟨sb,0,none⟩))]) (by intro p hp;simp only[di,eU,eX]at hp ⊢;rcases hp with rfl|rfl<;>simp)
 exact next a w₁ hK hF
theorem Dw(hB:∀b,Bs b↔b<N0)(next:∀a' v' w' S',Kn 74 [(5,v'),(2,.pointer (some ⟨sb,0,none⟩))] a'→LI N0 sb p q v' (min T.length 16) ((T.take (min T.length 16)).map .string) S' w'→GE prog true Bs Stop S' (G (b3.at a' [.code RA]) cs) w'):
 ∀(r k:Nat) (a:Act) (v:Value) (w:World) (S:Nat→Prop),k+r=min T.length 16→Kn 74 [(6,.int .i64 ((k:Nat):Int)),(5,v),(2,.pointer (some ⟨sb,0,none⟩)),(1,.slice ao T.length cap)] a→LI N0 sb p q v k ((T.take k).map .string) S w→TX N0 ao T w→GE prog true Bs Stop S (headA a cs) w:=by
 intro r;induction r with
 |zero=>
  intro k a v w S hk hK hF hX;obtain rfl:k=min T.length 16:=hk;by_cases h:min T.length 16<T.length
  ·exact Gi h (by omega) hK hF fun a' w' h1 h2=>next a' v w' S h1 h2
  ·exact Gh h hK hF fun a' w' h1 h2=>next a' v w' S h1 h2
 |succ r ih=>
  intro k a v w S hk hK hF hX;have h1:k<T.length:=by omega
  have h2:k<16:=by omega
  refine Jf hB h1 h2 (gK h1) hK hF hX fun a' v' w' S' hK' hF' hX'=>ih (k+1) a' v' w' S' (by omega) hK' ?_ hX';have e:(T.take (k+1)).map Value.string=(T.take k).map Value.string++[.string T[k]]:=by rw[yh h1,List.map_append];rfl
  rw[e];exact hF'
end
def StopA (N0:Nat) (p q:Int) (T:List ByteArray) (cs:List Frame) (_:Nat→Prop) (g:Goroutine) (w:World):Prop:=
 ∃a v sb S,g=G (b3.at a [.code RA]) cs∧Kn 74 [(5,v),(2,.pointer (some ⟨sb,0,none⟩))] a∧LI N0 sb p q v (min T.length 16) ((T.take (min T.length 16)).map .string) S w
theorem ade{Bs:Nat→Prop}{cap:Nat}{ao:Option Addr}{T:List ByteArray}(hB:∀b,Bs b↔b<N0)(hz:N0≤w.heap.size)(hX:TX N0 ao T w)(hK:Kn 74 [(0,.agg #[.int .i64 p,.int .i64 q]),(1,.slice ao T.length cap)] a):
 GE prog true Bs (StopA N0 p q T cs) S (G (b3.at a [.code lI]) cs) w:=by
 rw[N7];refine au rfl (fun _=>stepG_seq) fun w₁ y=>?_
 replace hX:=hX.rely (fun b hb=>(hB b).2 hb) y
 replace hz:=fA hz y.size
 clear y;refine au rfl (fun _=>stepG_region) fun w₁ y=>?_
 replace hX:=hX.rely (fun b hb=>(hB b).2 hb) y
 replace hz:=fA hz y.size
 clear y;rw[rg0];refine Ot (o₀:=.cells #[.int .i64 p,.int .i64 q] 23) (v:=fun w=>.pointer (some ⟨w.heap.size,0,none⟩)) hK abk (ai rfl) (by decide) rfl (by decide) rfl (fun w=>by have e0:=(hK.at (List.mem_cons_self));constructor<;>(unfold execOp;simp[go_sem,e0])) fun a w₁ S y hS hnw hK=>?_
 replace hX:=(hX.rely (fun b hb=>(hB b).2 hb) y).new (fA hz y.size) (.cells #[.int .i64 p,.int .i64 q] 23)
 have hF:LI N0 w₁.heap.size p q (.slice none 0 0) 0 [] S (w₁.alloc (.cells #[.int .i64 p,.int .i64 q] 23)):=⟨⟨rfl,.inl ⟨rfl,rfl⟩⟩,fun g hg=>by simp[Value.ownBlock]at hg,bJ _ _,hnw,by simp;exact Nat.le_succ_of_le (fA hz y.size),fA hz y.size⟩;clear hS hnw y;generalize w₁.heap.size=sb at hF hK;generalize (w₁.alloc (.cells #[.int .i64 p,.int .i64 q] 23))=w at hF hX ⊢;refine aR (v:=.bool false) hK abl (ai rfl) (by decide) (.inr rfl) rfl rfl (by decide) rfl fun a w₁ y hK=>?_
 replace hF:=hF.rely y
 replace hX:=hX.rely (fun b hb=>(hB b).2 hb) y
 clear y;refine au rfl (fun _=>stepG_region_end) fun w₁ y=>?_
 replace hF:=hF.rely y
 replace hX:=hX.rely (fun b hb=>(hB b).2 hb) y
 clear y;refine au rfl (fun _=>stepG_seq) fun w₁ y=>?_
 replace hF:=hF.rely y
 replace hX:=hX.rely (fun b hb=>(hB b).2 hb) y
 clear y;refine au rfl (fun _=>stepG_region) fun w₁ y=>?_
 replace hF:=hF.rely y
 replace hX:=hX.rely (fun b hb=>(hB b).2 hb) y
 clear y;rw[rg1];refine aR (v:=.slice none 0 0) hK abm (ai rfl) (by decide) (.inr rfl) rfl rfl (by decide) rfl fun a w₁ y hK=>?_
 replace hF:=hF.rely y
 replace hX:=hX.rely (fun b hb=>(hB b).2 hb) y
 clear y;refine au rfl (fun _=>stepG_region_end) fun w₁ y=>?_
 replace hF:=hF.rely y
 replace hX:=hX.rely (fun b hb=>(hB b).2 hb) y
 clear y;refine au rfl (fun _=>stepG_seq) fun w₁ y=>?_
 replace hF:=hF.rely y
 replace hX:=hX.rely (fun b hb=>(hB b).2 hb) y
 clear y;refine au rfl (fun _=>stepG_seq) fun w₁ y=>?_
 replace hF:=hF.rely y
 replace hX:=hX.rely (fun b hb=>(hB b).2 hb) y
 clear y;refine au rfl (fun _=>stepG_region) fun w₁ y=>?_
 replace hF:=hF.rely y
 replace hX:=hX.rely (fun b hb=>(hB b).2 hb) y
 clear y;rw[rg2];refine aR (v:=.int .i64 0) hK abn (ai rfl) (by decide) (.inr rfl) rfl rfl (by decide) rfl fun a w₁ y hK=>?_
 replace hF:=hF.rely y
 replace hX:=hX.rely (fun b hb=>(hB b).2 hb) y
 clear y;refine au rfl (fun _=>stepG_region_end) fun w₁ y=>?_
 replace hF:=hF.rely y
 replace hX:=hX.rely (fun b hb=>(hB b).2 hb) y
 clear y;refine au rfl (fun _=>stepG_block) fun w₁ y=>?_
 replace hF:=hF.rely y
 replace hX:=hX.rely (fun b hb=>(hB b).2 hb) y
 clear y;refine au rfl (fun _=>stepG_loop) fun w₁ y=>?_
 replace hF:=hF.rely y
 replace hX:=hX.rely (fun b hb=>(hB b).2 hb) y
 clear y
 replace hK:=hK.sub (L':=[(6,.int .i64 0),(5,.slice none 0 0),(2,.pointer (some ⟨sb,0,none⟩)),(1,.slice ao T.length cap)]) (by intro p hp;simp only[di,eU,eX]at hp ⊢;rcases hp with rfl|rfl|rfl|rfl<;>simp)
 exact Dw hB (fun a' v' w' S' h1 h2=>GE.stop fun w₂ y₂=>⟨a',v',sb,S',rfl,h1,h2.rely y₂⟩) (min T.length 16) 0 a _ w₁ S (lG _) hK hF hX
open Go.ConcR (KK wgBlock WgAt stA smA rd wr Payload Aside2 DC0 ofEvent_cell)
set_option linter.unusedSimpArgs false
set_option linter.unusedVariables false
def Ky (Stop:(Nat→Prop)→Goroutine→World→Prop):Prop:=∀S S' g w,Stop S g w→Stop S' g w
section
variable {main:Bool} {Bs S:Nat→Prop} {Stop:(Nat→Prop)→Goroutine→World→Prop} {g:Goroutine} {w:World}
theorem gef(hS:Ky Stop)(h:GE prog main (fun b=>Bs b∨S b) Stop (fun _=>False) g w):GE prog main Bs Stop S g w:=by
 have e:(fun b=>False∨S b)=S:=by funext b;simp
 have:=GE.frame (Bs:=Bs) (S:=fun _=>False) (X:=S) (Stop':=Stop) (fun ae4 g w x=>hS _ _ g w x) h;rw[e]at this;exact this
theorem jv{L:Nat}{π:Nat→Nat}{V:World}(h:HR L π V w){b:Nat}(hb:own L π V b):b<w.heap.size:=by obtain⟨i,_,h2,rfl⟩:=hb;exact h.range i h2
end
structure FG (F:World→Prop):Prop where
 g:∀w,F w→fD w
 t:∀w,F w→iE w
section
variable {Bs:Nat→Prop} {Stop:(Nat→Prop)→Goroutine→World→Prop} {w:World} {b:Frame} {a:Act} {kk:List Item} {cs:List Frame} {ops:Array Oper} {i:Nat} {rest:List Nat} {o:Oper} {F:World→Prop}
theorem J2{f:FuncId}{fn:Func}{jW:Array Value}{XA:Array Operand}{ats:Array TypeId}{v:Value}(hS:Ky Stop)(h7:∀b,b<7→Bs b)(hF:Ea Bs F)(hG:FG F)(hf:V7 f=true)(hroot:∀fn,prog.funcs[f]? =some fn→fn.results.all oM=true)(hmv:∀ρ,jW.map (mv ρ)=jW)(hv:∀ρ,mv ρ v=v)(hc:∀V t d,iE V→Calls prog f jW (on V t d) fun e _=>e= .returned v)(ho:ops[i]? =some o)(hw:Region.wanted o (yielded ops a.tmps)=true)(hk:b.kind≠ .early)(hop:o.op= .call {callee:=.value (.func f),args:=XA,argTypes:=ats})(hfn:prog.funcs[f]? =some fn)(hname:(fn.name== "runtime.NumGoroutine")=false)(hb:fn.body.isNone=false)(hargs:XA.map a.eval=jW)(hd:∀x,Bs x→x<w.heap.size)(h0:F w)(next:∀Qj w',(∀b,Bs b→Qj b)→(∀b,Qj b→b<w'.heap.size)→F w'→GE prog true Qj Stop (fun _=>False) (G (b.at (a.put o.dst v) (.inRegion ops rest::kk)) cs) w'):
 GE prog true Bs Stop (fun _=>False) (G (b.at a (.inRegion ops (i::rest)::kk)) cs) w:=by
 have hown:=Bn (hG.g w h0);rw[←hown];refine rQ Lg h7 hF (Post:=fun x _=>x=v) (fun _ _ _ _ x=>x) (jW:=jW) hf hroot (qO (hG.g w h0)).np (fun τ eY=>⟨nK (hG.g w h0) τ eY,hmv τ⟩) (fun t d=>(hc (qR w) t d (zK (hG.t w h0))).mono fun e w' x=>⟨v,x,rfl⟩) (qO (hG.g w h0)) ho hw hk hop hfn hname hb (fun w₁ ρ e=>by rw[hmv];exact hargs) (fun x hx=>⟨hd x hx,fun y=>by rw[hown]at y;exact y⟩) h0 ?_;intro zT V' v' w' hr' _ ht hF' hd';have hv':v'=v:=ht.1;subst hv';rw[hv];exact gef hS (next _ w' (fun b hb=>.inl hb) (fun b hb=>hb.elim (fun x=>(hd' b x).1) (jv hr')) hF')
end
def xI (p q:Int) (v:Value):Nat→Value
 | 0=>.agg #[.int .i64 p,.int .i64 q]
 | 1=>.int .i64 (nA p:Int)
 | 2=>.agg #[.int .i64 p,.int .i64 q]
 | 3=>.int .i64 (ny q:Int)
 |_=>v
def L6 (p q:Int) (v:Value) (sb:Nat) (D:Nat→Bool):List (Nat × Value):=(5,v)::(2,.pointer (some ⟨sb,0,none⟩))::((List.range 5).filter D).map fun i=>(31+i,xI p q v i)
def FH (D:Nat→Bool) (i:Nat):Nat→Bool:=fun j=>Nat.beq j i||D j
def Mm:List (List Nat):=[[6,7,8,9,10],[6,7,9,8,10],[6,8,7,9,10]]
def ZG:(Nat→Bool)→List Nat→Bool
 |D,i::l=>if Nat.beq i 5 then D 1&&D 3&&D 4&&Mm.contains l else Nat.ble i 4&& !D i&&(!Nat.beq i 1||D 0)&&(!Nat.beq i 3||D 2)&&ZG (FH D i) l
 |_,[]=>false
theorem abg:(qH e6 e6.size (Array.replicate e6.size false)).all (ZG fun _=>false)=true:=by kernel_rfl
section
variable {p q:Int} {v:Value} {sb:Nat} {D:Nat→Bool} {a:Act}
theorem OZ{i:Nat}(hi:i<5)(hD:D i=true):(31+i,xI p q v i)∈L6 p q v sb D:=by refine List.mem_cons_of_mem _ (List.mem_cons_of_mem _ (List.mem_map.2 ⟨i,List.mem_filter.2 ⟨List.mem_range.2 hi,hD⟩,rfl⟩))
theorem UH{i:Nat}(hi:i<5)(hD:D i=false):((L6 p q v sb D).all fun x=>x.1 != 31+i)=true:=by
 rw[List.all_eq_true];intro x hx;simp only[L6,di,List.mem_map,List.mem_filter,List.mem_range]at hx;rcases hx with rfl|rfl|⟨j,⟨hj,V_⟩,rfl⟩
 ·simp;omega
 ·simp;omega
 ·simp only[bne_iff_ne,ne_eq];intro e;have:j=i:=by omega
  subst this;rw[hD]at V_;cases V_
theorem Zx{i:Nat}(hi:i<5){n:Nat}(h:Kn n ((31+i,xI p q v i)::L6 p q v sb D) a):Kn n (L6 p q v sb (FH D i)) a:=by
 refine h.sub fun x hx=>?_;simp only[L6,di,List.mem_map,List.mem_filter,List.mem_range,FH,Bool.or_eq_true]at hx ⊢;rcases hx with rfl|rfl|⟨j,⟨hj,V_⟩,rfl⟩
 ·exact .inr (.inl rfl)
 ·exact .inr (.inr (.inl rfl))
 ·rcases V_ with e|V_
  ·have e:=Nat.eq_of_beq_eq_true e;subst e;exact .inl rfl
  ·exact .inr (.inr (.inr ⟨j,⟨hj,V_⟩,rfl⟩))
end
open Go.ConcR (KK wgBlock WgAt stA smA rd wr Payload Aside2 DC0 ofEvent_cell)
set_option linter.unusedSimpArgs false
set_option linter.unusedVariables false
theorem Q7{Bs:Nat→Prop}(hs:∀S g w,Stop S g w→Stop' S g w):∀{r:Rk} {S:Nat→Prop} {g:Goroutine} {w:World},GT P main Bs Stop r S g w→GT P main Bs Stop' r S g w:=by
 intro r;induction r with
 |none=>intro S g w h;exact h
 |leaf=>intro S g w h w₁ q;exact hs _ _ _ (h w₁ q)
 |node f ih=>intro S g w h;refine⟨h.1,fun w₁ q=>?_⟩;obtain⟨g',w',es,h1,h2,h3⟩:=h.2 w₁ q;exact⟨g',w',es,h1,h2,ih _ h3⟩
theorem Q3{Bs:Nat→Prop}{g:Goroutine}(h:GE P main Bs Stop S g w)(hs:∀S g w,Stop S g w→Stop' S g w):GE P main Bs Stop' S g w:=let⟨r,h⟩:=h;⟨r,Q7 hs h⟩
section
variable {main:Bool} {Bs S:Nat→Prop} {Stop:(Nat→Prop)→Goroutine→World→Prop} {w:World} {b:Frame} {a:Act} {kk:List Item} {cs:List Frame} {ops:Array Oper} {i:Nat} {rest:List Nat} {o:Oper}
theorem Oo{f:FuncId}{fn:Func}{XA:Array Operand}{ats:Array TypeId}(ho:ops[i]? =some o)(hw:Region.wanted o (yielded ops a.tmps)=true)(hk:b.kind≠ .early)(hop:o.op= .call {callee:=.value (.func f),args:=XA,argTypes:=ats})(hfn:prog.funcs[f]? =some fn)(hname:(fn.name== "runtime.NumGoroutine")=false)(hb:fn.body.isNone=false)(h:∀w₁,RY (fun b=>Bs b∨S b) w w₁→GE prog main Bs Stop S (G (Frame.enter prog f (XA.map a.eval) .normal) (b.at a (.inRegion ops (i::rest)::kk)::cs)) w₁):
 GE prog main Bs Stop S (G (b.at a (.inRegion ops (i::rest)::kk)) cs) w:=by
 refine GE.step rfl fun w₁ y=>?_;have hl:listed prog b.fn a o w₁= #[]:=by unfold listed;rw[events_call_body hop hfn hname hb];exact seen_none _ _
 exact⟨_,w₁,_,stepG_enter ho hw hk (run_call_body hop hfn hname hb),by rw[hl];exact .idle _,by rw[gV];exact h w₁ y⟩
end
structure FW (N0 sb:Nat) (p q:Int) (w:World):Prop where
 box:w.heap[sb]? =some (.cells #[.int .i64 p,.int .i64 q] 23)
 g:fD w
 t:iE w
 lo:N0≤w.heap.size
theorem JZ{Bs:Nat→Prop}{sb:Nat}(h7:∀b,b<7→Bs b)(hs:Bs sb):Ea Bs (FW N0 sb p q):=fun w w' hk hz _ h=>
 ⟨(hk sb hs).trans h.box,fun b hb=>by obtain⟨o,ho,x⟩:=h.g b hb;exact⟨o,(hk b (h7 b hb)).trans ho,x⟩,h.t.kept fun k hk'=>hk k (h7 k (by omega)),fA h.lo hz⟩
theorem Sv{sb:Nat}:FG (FW N0 sb p q):=⟨fun _ h=>h.g,fun _ h=>h.t⟩
theorem Cv{Bs:Nat→Prop}{sb:Nat}(h7:∀b,b<7→Bs b)(hs:Bs sb){w₁:World}(h:FW N0 sb p q w)(y:RY (fun b=>Bs b∨S b) w w₁):FW N0 sb p q w₁:=JZ h7 hs w w₁ (fun b hb=>y.keep b (.inl hb)) y.size y.os h
def StopB (N0 sb n:Nat) (p q:Int) (v:Value) (cs:List Frame) (_:Nat→Prop) (g:Goroutine) (w:World):Prop:=
 ∃a rest S,Mm.contains rest=true∧Kn 74 [(5,v),(2,.pointer (some ⟨sb,0,none⟩))] a∧JL N0 [] (nA p) (ny q) n v (b3.at a (.inRegion e6 (5::rest)::[.code RB])::cs) S g w
theorem zF{sb n:Nat}{v:Value}:Ky (StopB N0 sb n p q v cs):=fun _ _ _ _ h=>h
theorem TB:f5.body=some mI:=rfl
theorem nt5:f5.ntmps=34:=rfl
theorem VJ(x y z:Value): #[x,y,z]++Array.replicate (f5.ntmps-(#[x,y,z]:Array Value).size) undef= #[x,y,z,undef,undef,undef,undef,undef,undef,undef,undef,undef,undef,undef,undef,undef,undef,undef,undef,undef,undef,undef,undef,undef,undef,undef,undef,undef,undef,undef,undef,undef,undef,undef]:=by rw[nt5];simp[Array.replicate_succ]
theorem nm5:(f5.name== "runtime.NumGoroutine")=false:=by kernel_rfl
theorem nm6:(f6.name== "runtime.NumGoroutine")=false:=by kernel_rfl
theorem nm7:(f7.name== "runtime.NumGoroutine")=false:=by kernel_rfl
section
variable {N0 sb n cap:Nat} {p q:Int} {v:Value} {ao:Option Addr} {cs:List Frame}
theorem Pm(hv:v= .slice ao n cap)(hn:n≤16)(hp: -9223372036854775808≤p∧p≤9223372036854775807)(hq: -9223372036854775808≤q∧q≤9223372036854775807):
 ∀(l:List Nat) (D:Nat→Bool) (Bs:Nat→Prop) (a:Act) (w:World),ZG D l=true→(∀b,b<7→Bs b)→Bs sb→(∀b,Bs b→b<w.heap.size)→FW N0 sb p q w→Kn 74 (L6 p q v sb D) a→
  GE prog true Bs (StopB N0 sb n p q v cs) (fun _=>False) (G (b3.at a (.inRegion e6 l::[.code RB])) cs) w:=by
 intro l;induction l with
 |nil=>intro D Bs a w h;simp[ZG]at h
 |cons i l ih=>
  intro D Bs a w hok h7 hs hd hF hK;have put:∀{j:Nat} (hj:j<5) {a':Act},Kn 74 ((31+j,xI p q v j)::L6 p q v sb D) a'→Kn 74 (L6 p q v sb (FH D j)) a':=fun hj _ h=>Zx hj h;simp only[ZG]at hok;by_cases h5:Nat.beq i 5=true
  ·rw[aS h5]at hok;have e:=Nat.eq_of_beq_eq_true h5;subst e;simp only[Bool.and_eq_true]at hok;obtain⟨⟨⟨d1,d3⟩,d4⟩,hl⟩:=hok;have a1:=hK.get (OZ (i:=1) (by omega) d1);have a3:=hK.get (OZ (i:=3) (by omega) d3);have a4:=hK.get (OZ (i:=4) (by omega) d4);refine Oo abF (ai rfl) (by decide) rfl func5 nm5 rfl fun w₁ y=>?_;rw[enter_at _ func5 TB];have hF1:=Cv h7 hs hF y;have hK':Kn 74 [(5,v),(2,.pointer (some ⟨sb,0,none⟩))] a:=hK.sub fun x hx=>by simp only[di,eU,eX]at hx;rcases hx with rfl|rfl<;>simp[L6]
   subst hv;have hpre:=Qd (Bs:=Bs) (S:=fun _=>False) (rows:=nA p) (aa:=ny q) (n:=n) (cap:=cap) (ao:=ao) (cs:=b3.at a (.inRegion e6 (5::l)::[.code RB])::cs) (mY p) (mX q) hn (w:=w₁) (N0:=N0) (F0:=[]) ⟨fun x hx=>by simp at hx,.nil,fA hF.lo y.size⟩;have hst:∀S g w,JL N0 [] (nA p) (ny q) n (.slice ao n cap) (b3.at a (.inRegion e6 (5::l)::[.code RB])::cs) S g w→StopB N0 sb n p q (.slice ao n cap) cs S g w:=fun S g w h=>⟨a,l,S,hl,hK',h⟩;have:=Q3 hpre hst;simp only[List.map_toArray,List.map_cons,List.map_nil,a1,a3,a4,xI];rw[VJ];exact this
  ·rw[aG h5]at hok;simp only[Bool.and_eq_true,Bool.not_eq_true',Bool.or_eq_true]at hok;obtain⟨⟨⟨⟨hi,hDi⟩,h10⟩,h32⟩,hl⟩:=hok;have hi:i<5:=by have:=Nat.le_of_ble_eq_true hi;omega
   have hfr:=UH (p:=p) (q:=q) (v:=v) (sb:=sb) hi hDi;have hsb:a.eval (.tmp 2)= .pointer (some ⟨sb,0,none⟩):=hK.get (List.mem_cons_of_mem _ List.mem_cons_self);have h5v:a.eval (.tmp 5)=v:=hK.get List.mem_cons_self;have Y5:∀ρ,#[Value.agg #[.int .i64 p,.int .i64 q]].map (mv ρ)= #[Value.agg #[.int .i64 p,.int .i64 q]]:=fun ρ=>by simp[mv]
   have cont:∀(a':Act) (w₁:World),RY (fun b=>Bs b∨False) w w₁→Kn 74 ((31+i,xI p q v i)::L6 p q v sb D) a'→GE prog true Bs (StopB N0 sb n p q v cs) (fun _=>False) (G (b3.at a' (.inRegion e6 l::[.code RB])) cs) w₁:=fun a' w₁ y hK'=>
    ih _ Bs a' w₁ hl h7 hs (fun b hb=>aH (hd b hb) y.size) (Cv h7 hs hF y) (put hi hK')
   match i,hi,hDi,h10,h32,hl,hfr,cont with
   | 0,_,_,_,_,_,hfr,cont=>exact xY hK abA (ai rfl) (by decide) rfl hsb (.inl hs) hF.box xu rfl (by decide) hfr fun a' w₁ y hK'=>cont a' w₁ y hK'
   | 2,_,_,_,_,_,hfr,cont=>exact xY hK abC (ai rfl) (by decide) rfl hsb (.inl hs) hF.box xu rfl (by decide) hfr fun a' w₁ y hK'=>cont a' w₁ y hK'
   | 4,_,_,_,_,_,hfr,cont=>exact aR hK abE (ai rfl) (by decide) (.inl rfl) h5v rfl (by decide) hfr fun a' w₁ y hK'=>cont a' w₁ y hK'
   | 1,_,_,h10,_,hl,hfr,cont=>
     have hD0:D 0=true:=by rcases h10 with h|h;cases h;exact h
     refine J2 (v:=.int .i64 (nA p:Int)) (jW:=#[.agg #[.int .i64 p,.int .i64 q]]) zF h7 (JZ h7 hs) Sv rfl ZO Y5 (fun ρ=>by simp[mv]) (fun V t d hV=>(wE p q _ hp).mono fun e w' x=>x.1) abB (ai rfl) (by decide) rfl func6 nm6 rfl ?_ hd hF ?_
     ·have:=hK.get (OZ (i:=0) (by omega) hD0);simp only[List.map_toArray,List.map_cons,List.map_nil,this,xI]
     ·intro Qj w' YR hd' hF';exact ih _ Qj _ w' hl (fun b hb=>YR b (h7 b hb)) (YR sb hs) hd' hF' (put (j:=1) (by omega) (hK.put (d:=32) (by decide) hfr _))
   | 3,_,_,_,h32,hl,hfr,cont=>
     have hD2:D 2=true:=by rcases h32 with h|h;cases h;exact h
     refine J2 (v:=.int .i64 (ny q:Int)) (jW:=#[.agg #[.int .i64 p,.int .i64 q]]) zF h7 (JZ h7 hs) Sv rfl ZP Y5 (fun ρ=>by simp[mv]) (fun V t d hV=>(vU p q _ hq).mono fun e w' x=>x.1) abD (ai rfl) (by decide) rfl func7 nm7 rfl ?_ hd hF ?_
     ·have:=hK.get (OZ (i:=2) (by omega) hD2);simp only[List.map_toArray,List.map_cons,List.map_nil,this,xI]
     ·intro Qj w' YR hd' hF';exact ih _ Qj _ w' hl (fun b hb=>YR b (h7 b hb)) (YR sb hs) hd' hF' (put (j:=3) (by omega) (hK.put (d:=34) (by decide) hfr _))
end
end Go.Proofs.YtheibfffilomcabGreatDoor
