import Derived.Test.YtheibfffilomcabGreatDoorEvnU
import Derived.Test.YtheibfffilomcabGreatDoorK24U
set_option linter.all false
set_option maxRecDepth 100000
set_option maxHeartbeats 4000000
namespace Go.Proofs.YtheibfffilomcabGreatDoor
open Go.Ren Go.Conc Go.ConcN Go.RowKit Go.Conc.Lib Go.ConcR.Gen Go.ConcN.Gen Go.Proofs.Tryz
variable {a:Act} {P:Program} {N:Nat} {m m':Machine} {W:World} {p q:Int} {t t':Trace}
open Go.ConcR (KK wgBlock WgAt stA smA rd wr Payload Aside2 DC0 ofEvent_cell)
set_option linter.unusedSimpArgs false
set_option linter.unusedVariables false
noncomputable def TLC:Code:=.seq (.region 18 e18 false) .ret
noncomputable def BF:Code:=.seq (.region 16 e16 false) (.cond (.tmp 73) (.seq (.region 17 e17 false) .ret) .skip)
noncomputable def BE:Code:=.seq (.region 15 e15 false) BF
noncomputable def BD:Code:=.seq (.seq (.region 13 e13 false) (.cond (.tmp 65) (.seq (.region 14 e14 false) .ret) .skip)) BE
noncomputable def BC:Code:=.seq (.region 12 e12 true) BD
noncomputable def LC1:Code:=.seq (.region 10 e10 false) (.cond (.tmp 51) .skip (.exit 2))
noncomputable def LC2:Code:=.seq (.block 3 BC) (.region 11 e11 false)
theorem JI{main:Bool}{b:Frame}{k:List Item}{cs:List Frame}{w:World}:stepG prog main (G (b.at a (.code LC::k)) cs) w= .go (G (b.at a (.code LC1:: .code LC2::k)) cs) w #[]:=by rw[Xn];exact stepG_seq
noncomputable def KI:List Item:=[.inBlock 3,.code (.region 11 e11 false),.inLoop LC,.inBlock 2,.code TLC]
theorem nm8:(f8.name== "runtime.NumGoroutine")=false:=by kernel_rfl
theorem nm9:(f9.name== "runtime.NumGoroutine")=false:=by kernel_rfl
def FU:List (List Nat):=[[7,8,9,10,11],[7,8,10,9,11],[7,9,8,10,11]]
def Ba:Bool→List Nat→Bool
 |true,i::l=>Nat.beq i 6&&FU.contains l
 |false,i::j::l=>Nat.beq i 0&&Nat.beq j 6&&FU.contains l
 |_,_=>false
def O1:(Nat→Bool)→List Nat→Bool
 |D,i::l=>if Nat.beq i 5 then D 4&&Ba (D 0) l else Nat.ble i 4&& !D i&&(!Nat.beq i 3||(D 1&&D 2))&&(!Nat.beq i 4||D 3)&&O1 (FH D i) l
 |_,[]=>false
theorem Xv:(qH e12 e12.size (Array.replicate e12.size false)).all (O1 fun _=>false)=true:=by kernel_rfl
def wN (x:PP) (i:Nat) (t:ByteArray):Nat→Value
 | 0=>.agg #[.int .i64 x.p,.int .i64 x.q]
 | 1=>x.v
 | 2=>.int .i64 ((i:Nat):Int)
 | 3=>.pointer (some ⟨x.gb,i,none⟩)
 |_=>.string t
def B12 (x:PP) (i:Nat):List (Nat × Value):=[(9,.int .i64 ((i:Nat):Int)),(7,.slice (some ⟨x.C,0,none⟩) x.n x.n),(5,x.v),(2,.pointer (some ⟨x.sb,0,none⟩))]
def L12 (x:PP) (i:Nat) (t:ByteArray) (D:Nat→Bool):List (Nat × Value):=B12 x i++((List.range 5).filter D).map fun j=>(55+j,wN x i t j)
section
variable {x:PP} {i:Nat} {t:ByteArray} {D:Nat→Bool} {a:Act}
theorem EM{j:Nat}(hj:j<5)(hD:D j=true):(55+j,wN x i t j)∈L12 x i t D:=List.mem_append_right _ (List.mem_map.2 ⟨j,List.mem_filter.2 ⟨List.mem_range.2 hj,hD⟩,rfl⟩)
theorem JY{j:Nat}(hj:j<5)(hD:D j=false):((L12 x i t D).all fun y=>y.1 != 55+j)=true:=by
 rw[List.all_eq_true];intro y hy;simp only[L12,B12,oq,di,eU,eX,List.mem_map,List.mem_filter,List.mem_range]at hy;rcases hy with(rfl|rfl|rfl|rfl)|⟨k,⟨hk,UN⟩,rfl⟩
 ·simp;omega
 ·simp;omega
 ·simp;omega
 ·simp;omega
 ·simp only[bne_iff_ne,ne_eq];intro e;have:k=j:=by omega
  subst this;rw[hD]at UN;cases UN
theorem Ol:((L12 x i t D).all fun y=>y.1 != 60)=true:=by
 rw[List.all_eq_true];intro y hy;simp only[L12,B12,oq,di,eU,eX,List.mem_map,List.mem_filter,List.mem_range]at hy;rcases hy with(rfl|rfl|rfl|rfl)|⟨k,⟨hk,UN⟩,rfl⟩
 ·rfl
 ·rfl
 ·rfl
 ·rfl
 ·simp;omega
theorem Vd{j:Nat}(hj:j<5){n:Nat}(h:Kn n ((55+j,wN x i t j)::L12 x i t D) a):Kn n (L12 x i t (FH D j)) a:=by
 refine h.sub fun y hy=>?_;simp only[L12,oq,di,List.mem_map,List.mem_filter,List.mem_range,FH,Bool.or_eq_true]at hy ⊢;rcases hy with hy|⟨k,⟨hk,UN⟩,rfl⟩
 ·exact .inr (.inl hy)
 ·rcases UN with e|UN
  ·have e:=Nat.eq_of_beq_eq_true e;subst e;exact .inl rfl
  ·exact .inr (.inr ⟨k,⟨hk,UN⟩,rfl⟩)
end
section
variable {x:PP} {Bs:Nat→Prop} {Stop:(Nat→Prop)→Goroutine→World→Prop} {w:World} {a:Act} {cs:List Frame} {i:Nat} {t:ByteArray} {kk:List Item} {rest:List Nat}
theorem Es(hx:x.Ok)(ho:x.On Bs)(hd:∀b,Bs b→b<w.heap.size)(hF:FP x w)(hts:t.size≤281474976710656){tb:Nat}(h7:7≤tb)(htb:w.heap[tb]? =some (.cells #[.string t] 9))(hnb:¬Bs tb)(hK:Kn 74 ((60,.slice (some ⟨tb,0,none⟩) 1 1)::(55,.agg #[.int .i64 x.p,.int .i64 x.q])::B12 x i) a)(next:∀π V fb a' w',H8 x Bs π V w'→TV ((agM.fresh (nA x.p) (ny x.q)).feed (bl t)) fb V→Kn 74 ((61,.tuple #[.pointer (some ⟨π fb,0,none⟩),.bool true])::B12 x i) a'→GE prog true Bs Stop (own 7 π V) (G (b3.at a' (.inRegion e12 rest::kk)) cs) w'):
 GE prog true Bs Stop (fun b=>b=tb) (G (b3.at a (.inRegion e12 (6::rest)::kk)) cs) w:=by
 have hown:=Lx (t:=t) (tb:=tb) hF.g;rw[←hown];have e55:=hK.get (List.mem_cons_of_mem _ List.mem_cons_self);have e60:=hK.get List.mem_cons_self;refine rQ Lg ho.b7 (Ev ho) (Post:=Si x.p x.q t) (fun v V τ d y=>let⟨fb,h1,h2⟩:=y;⟨fb,h1,h2.on τ d⟩) (f:=8) (jW:=#[.agg #[.int .i64 x.p,.int .i64 x.q],.slice (some ⟨7,0,none⟩) 1 1]) rfl ZQ (EC hF.g h7 htb).np (fun τ eY=>⟨El hF.g τ eY,by simp[mv,bW,aab hF.g τ eY]⟩) (N_ hx.p hx.q hts (zL hF.g hF.t) (mK hF.g)) (EC hF.g h7 htb) XN (ai rfl) (by decide) rfl func8 nm8 rfl (fun w₁ ρ e=>?_) (fun b hb=>⟨hd b hb,fun y=>by rw[hown]at y;subst y;exact hnb hb⟩) hF ?_
 ·have e7:ρ 7=tb:=by rw[e.old 7 (by rw[kz hF.g];omega)];simp[O7]
  simp[e55,e60,mv,bW,e7]
 ·intro zT V' v' w' hr' _ ht hF' hd';obtain⟨fb,hv,hpf⟩:=ht.1;have OA:=Xo ht hpf hv;have hc:canon zT V' w' fb=zT fb:=(iY hr').old fb hpf.lt;have hmv:mv (canon zT V' w') v'= .tuple #[.pointer (some ⟨zT fb,0,none⟩),.bool true]:=by rw[hv];simp[mv,bW,hc]
  rw[hmv];refine next zT V' fb _ w' ⟨hF',hr',hd'⟩ OA ?_
  exact(hK.put (d:=61) (by decide) rfl _).sub fun y hy=>by
   simp only[di]at hy ⊢;rcases hy with hy|hy
   ·exact .inl hy
   ·exact .inr (.inr (.inr hy))
theorem ZI(hx:x.Ok)(hi:i<x.n)(ht:x.T[i]? =some t)(next:∀π V fb a' w' rest,FU.contains rest=true→H8 x Bs π V w'→TV ((agM.fresh (nA x.p) (ny x.q)).feed (bl t)) fb V→Kn 74 ((61,.tuple #[.pointer (some ⟨π fb,0,none⟩),.bool true])::B12 x i) a'→GE prog true Bs Stop (own 7 π V) (G (b3.at a' (.inRegion e12 rest::kk)) cs) w')(ho:x.On Bs):
 ∀(l:List Nat) (D:Nat→Bool) (a:Act) (w:World),O1 D l=true→(∀b,Bs b→b<w.heap.size)→FP x w→Kn 74 (L12 x i t D) a→
  GE prog true Bs Stop (fun _=>False) (G (b3.at a (.inRegion e12 l::kk)) cs) w:=by
 intro l;have hts:t.size≤281474976710656:=hx.s t (fu ht);obtain⟨ao,hv,hao⟩:=hx.v;have hao':=hao (by omega);subst hao';induction l with
 |nil=>intro D a w h;simp[O1]at h
 |cons j l ih=>
  intro D a w hok hd hF hK;have hsb:a.eval (.tmp 2)= .pointer (some ⟨x.sb,0,none⟩):=hK.get (by simp[L12,B12]);have h5v:a.eval (.tmp 5)=x.v:=hK.get (by simp[L12,B12]);have h9v:a.eval (.tmp 9)= .int .i64 ((i:Nat):Int):=hK.get (by simp[L12,B12]);simp only[O1]at hok;by_cases h5:Nat.beq j 5=true
  ·rw[aS h5]at hok;have e:=Nat.eq_of_beq_eq_true h5;subst e;simp only[Bool.and_eq_true]at hok;obtain⟨d4,hl⟩:=hok;have a4:=hK.at (EM (j:=4) (by omega) d4);refine Q4 (o₀:=.cells #[.string t] 9) (v:=fun w=>.slice (some ⟨w.heap.size,0,none⟩) 1 1) hK XM (ai rfl) (by decide) rfl (by decide) Ol (fun w=>by simp only[wN]at a4;constructor<;>(unfold execOp;simp[go_sem,a4])) fun a' w₁ y hK'=>?_;have hF1:=aA ho hF y;have hd1:∀b,Bs b→b<w₁.heap.size:=fun b hb=>aH (hd b hb) y.size;have hz:(w₁.alloc (.cells #[.string t] 9)).heap.size=w₁.heap.size+1:=by simp
   have hF2:FP x (w₁.alloc (.cells #[.string t] 9)):=Ev ho w₁ _ (fun b hb=>h_ _ _ _ (hd1 b hb)) (by rw[hz];omega) rfl hF1;have hd2:∀b,Bs b→b<(w₁.alloc (.cells #[.string t] 9)).heap.size:=fun b hb=>by rw[hz];have:=hd1 b hb;omega
   have htb:=bJ w₁ (.cells #[.string t] 9);have h7:7≤w₁.heap.size:=by have:=hd1 6 (ho.b7 6 (by omega));omega
   have hnb:¬Bs w₁.heap.size:=fun z=>Nat.lt_irrefl _ (hd1 _ z);generalize w₁.heap.size=tb at hK' htb h7 hnb ⊢;generalize (w₁.alloc (.cells #[.string t] 9))=w₂ at htb hF2 hd2 ⊢;cases hD0:D 0 with
   |true=>
    rw[hD0]at hl
    match l,hl with
    | [],hl=>simp[Ba]at hl
    |j::rest,hl=>
     simp only[Ba,Bool.and_eq_true]at hl;have e:=Nat.eq_of_beq_eq_true hl.1;subst e;refine Es hx ho hd2 hF2 hts h7 htb hnb (hK'.sub fun y hy=>?_) fun π V fb a'' w'' h1 h2 h3=>next π V fb a'' w'' rest hl.2 h1 h2 h3
     have m0:=EM (x:=x) (i:=i) (t:=t) (j:=0) (by omega) hD0;simp only[di]at hy ⊢;rcases hy with hy|rfl|hy
     ·exact .inl hy
     ·exact .inr m0
     ·exact .inr (List.mem_append_left _ hy)
   |false=>
    rw[hD0]at hl
    match l,hl with
    | [],hl=>simp[Ba]at hl
    | [_],hl=>simp[Ba]at hl
    |j::j'::rest,hl=>
     simp only[Ba,Bool.and_eq_true]at hl;have e:=Nat.eq_of_beq_eq_true hl.1.1;subst e;have e:=Nat.eq_of_beq_eq_true hl.1.2;subst e;have hfr:(((60,Value.slice (some ⟨tb,0,none⟩) 1 1)::L12 x i t D).all fun y=>y.1 != 55)=true:=by simp only[List.all_cons,JY (x:=x) (i:=i) (t:=t) (j:=0) (by omega) hD0,Bool.and_true];rfl
     refine xY hK' Su (ai rfl) (by decide) rfl (hK'.get (by simp[L12,B12])) (.inl ho.sb) hF2.box xu rfl (by decide) hfr fun a'' w₃ y3 hK3=>?_;refine Es hx ho (fun b hb=>aH (hd2 b hb) y3.size) (aA ho hF2 y3) hts h7 ((y3.keep tb (.inr rfl)).trans htb) hnb (hK3.sub fun y hy=>?_) fun π V fb a'' w'' h1 h2 h3=>next π V fb a'' w'' rest hl.2 h1 h2 h3
     simp only[di]at hy ⊢;rcases hy with hy|hy|hy
     ·exact .inr (.inl hy)
     ·exact .inl hy
     ·exact .inr (.inr (List.mem_append_left _ hy))
  ·rw[aG h5]at hok;simp only[Bool.and_eq_true,Bool.not_eq_true',Bool.or_eq_true]at hok;obtain⟨⟨⟨⟨hj,hDj⟩,h3⟩,h4⟩,hl⟩:=hok;have hj:j<5:=by have:=Nat.le_of_ble_eq_true hj;omega
   have hfr:=JY (x:=x) (i:=i) (t:=t) hj hDj;have cont:∀(a':Act) (w₁:World),RY (fun b=>Bs b∨False) w w₁→Kn 74 ((55+j,wN x i t j)::L12 x i t D) a'→GE prog true Bs Stop (fun _=>False) (G (b3.at a' (.inRegion e12 l::kk)) cs) w₁:=fun a' w₁ y hK'=>
    ih _ a' w₁ hl (fun b hb=>aH (hd b hb) y.size) (aA ho hF y) (Vd hj hK')
   match j,hj,hDj,h3,h4,hl,hfr,cont with
   | 0,_,_,_,_,_,hfr,cont=>exact xY hK Su (ai rfl) (by decide) rfl hsb (.inl ho.sb) hF.box xu rfl (by decide) hfr fun a' w₁ y hK'=>cont a' w₁ y hK'
   | 1,_,_,_,_,_,hfr,cont=>exact aR hK XI (ai rfl) (by decide) (.inl rfl) h5v rfl (by decide) hfr fun a' w₁ y hK'=>cont a' w₁ y hK'
   | 2,_,_,_,_,_,hfr,cont=>exact aR hK XJ (ai rfl) (by decide) (.inl rfl) h9v rfl (by decide) hfr fun a' w₁ y hK'=>cont a' w₁ y hK'
   | 3,_,_,h3,_,_,hfr,cont=>
     have YS:D 1=true∧D 2=true:=by rcases h3 with h|h;cases h;exact h
     have a1:=hK.at (EM (j:=1) (by omega) YS.1);have a2:=hK.at (EM (j:=2) (by omega) YS.2);have hiz:(i:Int)<(x.n:Int):=by omega
     have hi0:(0:Int)≤(i:Int):=by omega
     simp only[wN,hv]at a1 a2;exact bZ (v:=.pointer (some ⟨x.gb,i,none⟩)) hK XK (ai rfl) (by decide) rfl (by decide) hfr (fun w=>by constructor<;>(unfold execOp;simp[go_sem,a1,a2,hi,hiz,hi0])) fun a' w₁ y hK'=>cont a' w₁ y hK'
   | 4,_,_,_,h4,_,hfr,cont=>
     have hD3:D 3=true:=by rcases h4 with h|h;cases h;exact h
     exact J5 (.inr (.inl rfl)) (ad:=⟨x.gb,i,none⟩) hK XL (ai rfl) (by decide) rfl (hK.get (EM (j:=3) (by omega) hD3)) (.inl (ho.gb (by omega))) (fun w₁ y=>(aA ho hF y).x i t hi ht) xu rfl (by decide) hfr fun a' w₁ y hK'=>cont a' w₁ y hK'
end
open Go.ConcR (KK wgBlock WgAt stA smA rd wr Payload Aside2 DC0 ofEvent_cell)
set_option linter.unusedSimpArgs false
set_option linter.unusedVariables false
def D_ (x:PP) (Stop:(Nat→Prop)→Goroutine→World→Prop) (cs:List Frame) (i:Nat):Prop:=∀Bs a w,x.On Bs→(∀b,Bs b→b<w.heap.size)→FP x w→Kn 74 (B12 x i) a→GE prog true Bs Stop (fun _=>False) (yV a cs) w
section
variable {x:PP} {Bs:Nat→Prop} {Stop:(Nat→Prop)→Goroutine→World→Prop} {w:World} {a:Act} {cs:List Frame} {i:Nat} {t:ByteArray}
theorem KF(hx:x.Ok)(hi:i<x.n)(next:D_ x Stop cs (i+1))(ho:x.On Bs)(hd:∀b,Bs b→b<w.heap.size)(hF:FP x w)(hK:Kn 74 ((67,.string (x.Us i))::B12 x i) a):
 GE prog true Bs Stop (fun _=>False) (G (b3.at a (.inRegion e15 [2]:: .code BF::KI)) cs) w:=by
 have hiz:(i:Int)<(x.n:Int):=by omega
 have hi0:(0:Int)≤(i:Int):=by omega
 have hn16:=hx.n16;have hw1:IntKind.i64.wrap ((i:Int)+1)=(i:Int)+1:=by rw[IntKind.wrap_i64];omega
 unfold B12 at hK;refine aR hK XT (ai rfl) (by decide) (.inr rfl) (hK.get (List.mem_cons_self)) rfl (by decide) rfl fun a w₁ y hK=>?_
 replace hF:=aA ho hF y
 replace hd:=fun b hb=>aH (hd b hb) y.size
 clear y;refine au rfl (fun _=>stepG_region_end) fun w₁ y=>?_
 replace hF:=aA ho hF y
 replace hd:=fun b hb=>aH (hd b hb) y.size
 clear y;unfold BF;refine au rfl (fun _=>stepG_seq) fun w₁ y=>?_
 replace hF:=aA ho hF y
 replace hd:=fun b hb=>aH (hd b hb) y.size
 clear y;refine au rfl (fun _=>stepG_region) fun w₁ y=>?_
 replace hF:=aA ho hF y
 replace hd:=fun b hb=>aH (hd b hb) y.size
 clear y;rw[ac1];refine aR hK XU (ai rfl) (by decide) (.inl rfl) (hK.get (List.mem_cons_self)) rfl (by decide) rfl fun a w₁ y hK=>?_
 replace hF:=aA ho hF y
 replace hd:=fun b hb=>aH (hd b hb) y.size
 clear y;refine aR hK XV (ai rfl) (by decide) (.inl rfl) (hK.get (List.mem_cons_of_mem _ (List.mem_cons_of_mem _ (List.mem_cons_of_mem _ (List.mem_cons_of_mem _ List.mem_cons_self))))) rfl (by decide) rfl fun a w₁ y hK=>?_
 replace hF:=aA ho hF y
 replace hd:=fun b hb=>aH (hd b hb) y.size
 clear y;refine aR hK XW (ai rfl) (by decide) (.inl rfl) (hK.get (List.mem_cons_of_mem _ (List.mem_cons_of_mem _ (List.mem_cons_of_mem _ (List.mem_cons_of_mem _ List.mem_cons_self))))) rfl (by decide) rfl fun a w₁ y hK=>?_
 replace hF:=aA ho hF y
 replace hd:=fun b hb=>aH (hd b hb) y.size
 clear y;refine bZ (v:=.pointer (some ⟨x.C,i,none⟩)) hK XX (ai rfl) (by decide) rfl (by decide) rfl (fun w=>by have e0:=hK.at (List.mem_cons_of_mem _ List.mem_cons_self);have e1:=hK.at (List.mem_cons_self);constructor<;>(unfold execOp;simp[go_sem,e0,e1,hi,hiz,hi0])) fun a w₁ y hK=>?_
 replace hF:=aA ho hF y
 replace hd:=fun b hb=>aH (hd b hb) y.size
 clear y;refine J5 (.inr (.inl rfl)) (ad:=⟨x.C,i,none⟩) hK XY (ai rfl) (by decide) rfl (hK.get (List.mem_cons_self)) (.inl ho.C) (fun w₁ y=>(aA ho hF y).c i hi) xu rfl (by decide) rfl fun a w₁ y hK=>?_
 replace hF:=aA ho hF y
 replace hd:=fun b hb=>aH (hd b hb) y.size
 clear y;refine bZ (v:=.bool false) hK XZ (ai rfl) (by decide) rfl (by decide) rfl (fun w=>by have e0:=hK.at (List.mem_cons_of_mem _ (List.mem_cons_of_mem _ (List.mem_cons_of_mem _ (List.mem_cons_of_mem _ List.mem_cons_self))));have e1:=hK.at (List.mem_cons_self);constructor<;>(unfold execOp;simp[go_sem,e0,e1])) fun a w₁ y hK=>?_
 replace hF:=aA ho hF y
 replace hd:=fun b hb=>aH (hd b hb) y.size
 clear y;refine au rfl (fun _=>stepG_region_end) fun w₁ y=>?_
 replace hF:=aA ho hF y
 replace hd:=fun b hb=>aH (hd b hb) y.size
 clear y;refine au rfl (fun _=>stepG_cond (t:=false) (hK.get (List.mem_cons_self))) fun w₁ y=>?_
 replace hF:=aA ho hF y
 replace hd:=fun b hb=>aH (hd b hb) y.size
 clear y;simp only[Bool.false_eq_true, ↓reduceIte];refine au rfl (fun _=>stepG_skip) fun w₁ y=>?_
 replace hF:=aA ho hF y
 replace hd:=fun b hb=>aH (hd b hb) y.size
 clear y;unfold KI;refine au rfl (fun _=>stepG_inBlock) fun w₁ y=>?_
 replace hF:=aA ho hF y
 replace hd:=fun b hb=>aH (hd b hb) y.size
 clear y;refine au rfl (fun _=>stepG_region) fun w₁ y=>?_
 replace hF:=aA ho hF y
 replace hd:=fun b hb=>aH (hd b hb) y.size
 clear y;rw[acY];refine aR hK XF (ai rfl) (by decide) (.inl rfl) (hK.get (List.mem_cons_of_mem _ (List.mem_cons_of_mem _ (List.mem_cons_of_mem _ (List.mem_cons_of_mem _ (List.mem_cons_of_mem _ (List.mem_cons_of_mem _ (List.mem_cons_of_mem _ (List.mem_cons_of_mem _ List.mem_cons_self))))))))) rfl (by decide) rfl fun a w₁ y hK=>?_
 replace hF:=aA ho hF y
 replace hd:=fun b hb=>aH (hd b hb) y.size
 clear y;refine bZ (v:=.int .i64 ((i+1:Nat):Int)) hK XG (ai rfl) (by decide) rfl (by decide) rfl (fun w=>by have e0:=hK.at (List.mem_cons_self);constructor<;>(unfold execOp;simp[go_sem,e0,hw1])) fun a w₁ y hK=>?_
 replace hF:=aA ho hF y
 replace hd:=fun b hb=>aH (hd b hb) y.size
 clear y
 replace hK:=hK.sub (L':=[(53,.int .i64 ((i+1:Nat):Int)),(7,.slice (some ⟨x.C,0,none⟩) x.n x.n),(5,x.v),(2,.pointer (some ⟨x.sb,0,none⟩))]) (by intro p hp;simp only[di,eU,eX]at hp ⊢;rcases hp with rfl|rfl|rfl|rfl<;>simp)
 refine aR hK XH (ai rfl) (by decide) (.inr rfl) (hK.get (List.mem_cons_self)) rfl (by decide) rfl fun a w₁ y hK=>?_
 replace hF:=aA ho hF y
 replace hd:=fun b hb=>aH (hd b hb) y.size
 clear y
 replace hK:=hK.sub (L':=[(9,.int .i64 ((i+1:Nat):Int)),(7,.slice (some ⟨x.C,0,none⟩) x.n x.n),(5,x.v),(2,.pointer (some ⟨x.sb,0,none⟩))]) (by intro p hp;simp only[di,eU,eX]at hp ⊢;rcases hp with rfl|rfl|rfl|rfl<;>simp)
 refine au rfl (fun _=>stepG_region_end) fun w₁ y=>?_
 replace hF:=aA ho hF y
 replace hd:=fun b hb=>aH (hd b hb) y.size
 clear y;refine au rfl (fun _=>stepG_inLoop) fun w₁ y=>?_
 replace hF:=aA ho hF y
 replace hd:=fun b hb=>aH (hd b hb) y.size
 clear y;exact next Bs a w₁ ho hd hF hK
theorem Cf(hS:Ky Stop)(hx:x.Ok)(hi:i<x.n)(ht:x.T[i]? =some t)(next:D_ x Stop cs (i+1))(ho:x.On Bs){π:Nat→Nat}{V:World}{fb:Nat}(hH:H8 x Bs π V w)(OA:TV ((agM.fresh (nA x.p) (ny x.q)).feed (bl t)) fb V)(hK:Kn 74 ((11,.bool true)::(10,.pointer (some ⟨π fb,0,none⟩))::B12 x i) a):
 GE prog true Bs Stop (own 7 π V) (G (b3.at a (.inRegion e12 []:: .code BD::KI)) cs) w:=by
 unfold B12 at hK;refine au rfl (fun _=>stepG_region_end) fun w₁ y=>?_
 replace hH:=hH.rely ho y
 clear y;unfold BD;refine au rfl (fun _=>stepG_seq) fun w₁ y=>?_
 replace hH:=hH.rely ho y
 clear y;refine au rfl (fun _=>stepG_seq) fun w₁ y=>?_
 replace hH:=hH.rely ho y
 clear y;refine au rfl (fun _=>stepG_region) fun w₁ y=>?_
 replace hH:=hH.rely ho y
 clear y;rw[acZ];refine aR hK XO (ai rfl) (by decide) (.inl rfl) (hK.get (List.mem_cons_self)) rfl (by decide) rfl fun a w₁ y hK=>?_
 replace hH:=hH.rely ho y
 clear y;refine bZ (v:=.bool false) hK XP (ai rfl) (by decide) rfl (by decide) rfl (fun w=>by have e0:=hK.at (List.mem_cons_self);constructor<;>(unfold execOp;simp[go_sem,e0])) fun a w₁ y hK=>?_
 replace hH:=hH.rely ho y
 clear y;refine au rfl (fun _=>stepG_region_end) fun w₁ y=>?_
 replace hH:=hH.rely ho y
 clear y;refine au rfl (fun _=>stepG_cond (t:=false) (hK.get (List.mem_cons_self))) fun w₁ y=>?_
 replace hH:=hH.rely ho y
 clear y;simp only[Bool.false_eq_true, ↓reduceIte];refine au rfl (fun _=>stepG_skip) fun w₁ y=>?_
 replace hH:=hH.rely ho y
 clear y;unfold BE;refine au rfl (fun _=>stepG_seq) fun w₁ y=>?_
 replace hH:=hH.rely ho y
 clear y;refine au rfl (fun _=>stepG_region) fun w₁ y=>?_
 replace hH:=hH.rely ho y
 clear y;rw[ac0];refine aR hK XQ (ai rfl) (by decide) (.inl rfl) (hK.get (List.mem_cons_of_mem _ (List.mem_cons_of_mem _ (List.mem_cons_of_mem _ List.mem_cons_self)))) rfl (by decide) rfl fun a w₁ y hK=>?_
 replace hH:=hH.rely ho y
 clear y;have e66:=(hK.get (List.mem_cons_self));refine rQ Lg ho.b7 (Ev ho) (Post:=fun v _=>v= .string (x.Us i)) (fun _ _ _ _ y=>y) (f:=9) (jW:=#[.pointer (some ⟨fb,0,none⟩)]) rfl SG OA.2.1 (fun τ eY=>⟨(OA.2.2 τ eY).1,by simp[(OA.2.2 τ eY).2]⟩) (TI (hx.U i t hi ht) OA.1) hH.hr XR (ai rfl) (by decide) rfl func9 nm9 rfl (fun w₁ ρ e=>?_) hH.d hH.f ?_
 ·simp[e66,mv,bW,e.old fb OA.1.lt]
 ·intro zT V' v' w' hr' _ hv hF' hd';have hv':v'= .string (x.Us i):=hv.1;subst hv';simp only[mv];refine gef hS (KF hx hi next (ho.mono fun b hb=>.inl hb) (fun b hb=>hb.elim (fun y=>(hd' b y).1) (jv hr')) hF' ?_);refine(hK.put (d:=67) (by decide) rfl _).sub fun y hy=>?_;simp only[B12,di,eU,eX]at hy ⊢;rcases hy with rfl|rfl|rfl|rfl|rfl<;>simp
theorem PM{rest:List Nat}(hrest:FU.contains rest=true)(hS:Ky Stop)(hx:x.Ok)(hi:i<x.n)(ht:x.T[i]? =some t)(next:D_ x Stop cs (i+1))(ho:x.On Bs){π:Nat→Nat}{V:World}{fb:Nat}(hH:H8 x Bs π V w)(OA:TV ((agM.fresh (nA x.p) (ny x.q)).feed (bl t)) fb V)(hK:Kn 74 ((61,.tuple #[.pointer (some ⟨π fb,0,none⟩),.bool true])::B12 x i) a):
 GE prog true Bs Stop (own 7 π V) (G (b3.at a (.inRegion e12 rest:: .code BD::KI)) cs) w:=by
 have hm:rest=[7,8,9,10,11]∨rest=[7,8,10,9,11]∨rest=[7,9,8,10,11]:=by simpa[FU]using hrest
 unfold B12 at hK;rcases hm with rfl|rfl|rfl
 ·refine aR hK Ob (ai rfl) (by decide) (.inl rfl) (hK.get (List.mem_cons_self)) rfl (by decide) rfl fun a w₁ y hK=>?_
  replace hH:=hH.rely ho y
  clear y;refine bZ (v:=.pointer (some ⟨π fb,0,none⟩)) hK Oc (ai rfl) (by decide) rfl (by decide) rfl (fun w=>by have e0:=hK.at (List.mem_cons_self);constructor<;>(unfold execOp;simp[go_sem,e0])) fun a w₁ y hK=>?_
  replace hH:=hH.rely ho y
  clear y;refine bZ (v:=.bool true) hK Od (ai rfl) (by decide) rfl (by decide) rfl (fun w=>by have e0:=hK.at (List.mem_cons_of_mem _ List.mem_cons_self);constructor<;>(unfold execOp;simp[go_sem,e0])) fun a w₁ y hK=>?_
  replace hH:=hH.rely ho y
  clear y;refine aR hK GX (ai rfl) (by decide) (.inr rfl) (hK.get (List.mem_cons_of_mem _ List.mem_cons_self)) rfl (by decide) rfl fun a w₁ y hK=>?_
  replace hH:=hH.rely ho y
  clear y;refine aR hK GZ (ai rfl) (by decide) (.inr rfl) (hK.get (List.mem_cons_of_mem _ List.mem_cons_self)) rfl (by decide) rfl fun a w₁ y hK=>?_
  replace hH:=hH.rely ho y
  clear y
  replace hK:=hK.sub (L':=[(11,.bool true),(10,.pointer (some ⟨π fb,0,none⟩)),(9,.int .i64 ((i:Nat):Int)),(7,.slice (some ⟨x.C,0,none⟩) x.n x.n),(5,x.v),(2,.pointer (some ⟨x.sb,0,none⟩))]) (by intro p hp;simp only[di,eU,eX]at hp ⊢;rcases hp with rfl|rfl|rfl|rfl|rfl|rfl<;>simp)
  exact Cf hS hx hi ht next ho hH OA hK
 ·refine aR hK Ob (ai rfl) (by decide) (.inl rfl) (hK.get (List.mem_cons_self)) rfl (by decide) rfl fun a w₁ y hK=>?_
  replace hH:=hH.rely ho y
  clear y;refine bZ (v:=.pointer (some ⟨π fb,0,none⟩)) hK Oc (ai rfl) (by decide) rfl (by decide) rfl (fun w=>by have e0:=hK.at (List.mem_cons_self);constructor<;>(unfold execOp;simp[go_sem,e0])) fun a w₁ y hK=>?_
  replace hH:=hH.rely ho y
  clear y;refine aR hK GX (ai rfl) (by decide) (.inr rfl) (hK.get (List.mem_cons_self)) rfl (by decide) rfl fun a w₁ y hK=>?_
  replace hH:=hH.rely ho y
  clear y;refine bZ (v:=.bool true) hK Od (ai rfl) (by decide) rfl (by decide) rfl (fun w=>by have e0:=hK.at (List.mem_cons_of_mem _ (List.mem_cons_of_mem _ List.mem_cons_self));constructor<;>(unfold execOp;simp[go_sem,e0])) fun a w₁ y hK=>?_
  replace hH:=hH.rely ho y
  clear y;refine aR hK GZ (ai rfl) (by decide) (.inr rfl) (hK.get (List.mem_cons_self)) rfl (by decide) rfl fun a w₁ y hK=>?_
  replace hH:=hH.rely ho y
  clear y
  replace hK:=hK.sub (L':=[(11,.bool true),(10,.pointer (some ⟨π fb,0,none⟩)),(9,.int .i64 ((i:Nat):Int)),(7,.slice (some ⟨x.C,0,none⟩) x.n x.n),(5,x.v),(2,.pointer (some ⟨x.sb,0,none⟩))]) (by intro p hp;simp only[di,eU,eX]at hp ⊢;rcases hp with rfl|rfl|rfl|rfl|rfl|rfl<;>simp)
  exact Cf hS hx hi ht next ho hH OA hK
 ·refine aR hK Ob (ai rfl) (by decide) (.inl rfl) (hK.get (List.mem_cons_self)) rfl (by decide) rfl fun a w₁ y hK=>?_
  replace hH:=hH.rely ho y
  clear y;refine bZ (v:=.bool true) hK Od (ai rfl) (by decide) rfl (by decide) rfl (fun w=>by have e0:=hK.at (List.mem_cons_self);constructor<;>(unfold execOp;simp[go_sem,e0])) fun a w₁ y hK=>?_
  replace hH:=hH.rely ho y
  clear y;refine bZ (v:=.pointer (some ⟨π fb,0,none⟩)) hK Oc (ai rfl) (by decide) rfl (by decide) rfl (fun w=>by have e0:=hK.at (List.mem_cons_of_mem _ List.mem_cons_self);constructor<;>(unfold execOp;simp[go_sem,e0])) fun a w₁ y hK=>?_
  replace hH:=hH.rely ho y
  clear y;refine aR hK GX (ai rfl) (by decide) (.inr rfl) (hK.get (List.mem_cons_self)) rfl (by decide) rfl fun a w₁ y hK=>?_
  replace hH:=hH.rely ho y
  clear y;refine aR hK GZ (ai rfl) (by decide) (.inr rfl) (hK.get (List.mem_cons_of_mem _ (List.mem_cons_of_mem _ List.mem_cons_self))) rfl (by decide) rfl fun a w₁ y hK=>?_
  replace hH:=hH.rely ho y
  clear y
  replace hK:=hK.sub (L':=[(11,.bool true),(10,.pointer (some ⟨π fb,0,none⟩)),(9,.int .i64 ((i:Nat):Int)),(7,.slice (some ⟨x.C,0,none⟩) x.n x.n),(5,x.v),(2,.pointer (some ⟨x.sb,0,none⟩))]) (by intro p hp;simp only[di,eU,eX]at hp ⊢;rcases hp with rfl|rfl|rfl|rfl|rfl|rfl<;>simp)
  exact Cf hS hx hi ht next ho hH OA hK
theorem Za(hS:Ky Stop)(hx:x.Ok)(hi:i<x.n)(ht:x.T[i]? =some t)(next:D_ x Stop cs (i+1))(ho:x.On Bs)(hd:∀b,Bs b→b<w.heap.size)(hF:FP x w)(hK:Kn 74 (B12 x i) a):
 GE prog true Bs Stop (fun _=>False) (yV a cs) w:=by
 have hiz:(i:Int)<(x.n:Int):=by omega
 obtain⟨ao,hv,_⟩:=hx.v;unfold B12 at hK;unfold yV;refine au rfl (fun _=>JI) fun w₁ y=>?_
 replace hF:=aA ho hF y
 replace hd:=fun b hb=>aH (hd b hb) y.size
 clear y;unfold LC1;refine au rfl (fun _=>stepG_seq) fun w₁ y=>?_
 replace hF:=aA ho hF y
 replace hd:=fun b hb=>aH (hd b hb) y.size
 clear y;refine au rfl (fun _=>stepG_region) fun w₁ y=>?_
 replace hF:=aA ho hF y
 replace hd:=fun b hb=>aH (hd b hb) y.size
 clear y;rw[ZM];refine aR hK Sl (ai rfl) (by decide) (.inl rfl) (hK.get (List.mem_cons_self)) rfl (by decide) rfl fun a w₁ y hK=>?_
 replace hF:=aA ho hF y
 replace hd:=fun b hb=>aH (hd b hb) y.size
 clear y;refine aR hK Sn (ai rfl) (by decide) (.inl rfl) (hK.get (List.mem_cons_of_mem _ (List.mem_cons_of_mem _ (List.mem_cons_of_mem _ List.mem_cons_self)))) rfl (by decide) rfl fun a w₁ y hK=>?_
 replace hF:=aA ho hF y
 replace hd:=fun b hb=>aH (hd b hb) y.size
 clear y;refine bZ (v:=.int .i64 x.n) hK Sq (ai rfl) (by decide) rfl (by decide) rfl (fun w=>by have e0:=hK.at (List.mem_cons_self);constructor<;>(unfold execOp;simp[go_sem,e0,hv])) fun a w₁ y hK=>?_
 replace hF:=aA ho hF y
 replace hd:=fun b hb=>aH (hd b hb) y.size
 clear y;refine bZ (v:=.bool true) hK Sr (ai rfl) (by decide) rfl (by decide) rfl (fun w=>by have e0:=hK.at (List.mem_cons_of_mem _ (List.mem_cons_of_mem _ List.mem_cons_self));have e1:=hK.at (List.mem_cons_self);constructor<;>(unfold execOp;simp[go_sem,e0,e1,hi,hiz])) fun a w₁ y hK=>?_
 replace hF:=aA ho hF y
 replace hd:=fun b hb=>aH (hd b hb) y.size
 clear y;refine au rfl (fun _=>stepG_region_end) fun w₁ y=>?_
 replace hF:=aA ho hF y
 replace hd:=fun b hb=>aH (hd b hb) y.size
 clear y;refine au rfl (fun _=>stepG_cond (t:=true) (hK.get (List.mem_cons_self))) fun w₁ y=>?_
 replace hF:=aA ho hF y
 replace hd:=fun b hb=>aH (hd b hb) y.size
 clear y;simp only[↓reduceIte];refine au rfl (fun _=>stepG_skip) fun w₁ y=>?_
 replace hF:=aA ho hF y
 replace hd:=fun b hb=>aH (hd b hb) y.size
 clear y;unfold LC2;refine au rfl (fun _=>stepG_seq) fun w₁ y=>?_
 replace hF:=aA ho hF y
 replace hd:=fun b hb=>aH (hd b hb) y.size
 clear y;refine au rfl (fun _=>stepG_block) fun w₁ y=>?_
 replace hF:=aA ho hF y
 replace hd:=fun b hb=>aH (hd b hb) y.size
 clear y;unfold BC;refine au rfl (fun _=>stepG_seq) fun w₁ y=>?_
 replace hF:=aA ho hF y
 replace hd:=fun b hb=>aH (hd b hb) y.size
 clear y
 replace hK:=hK.sub (L':=[(9,.int .i64 ((i:Nat):Int)),(7,.slice (some ⟨x.C,0,none⟩) x.n x.n),(5,x.v),(2,.pointer (some ⟨x.sb,0,none⟩))]) (by intro p hp;simp only[di,eU,eX]at hp ⊢;rcases hp with rfl|rfl|rfl|rfl<;>simp)
 refine GE.draw rfl fun w₁ y=>⟨_,stepG_region_draw,?_⟩;have hm:=vT mixed e12 (w₁.tape w₁.drawn (.order b3.fn 12));refine ZI (kk:=.code BD::KI) hx hi ht (fun π V fb a' w' rest h1 h2 h3 h4=>PM h1 hS hx hi ht next ho h2 h3 h4) ho _ (fun _=>false) a _ (List.all_eq_true.1 Xv _ hm) (fun b hb=>aH (hd b hb) y.size) (Ev ho _ _ (fun b hb=>y.keep b (.inl hb)) y.size y.os hF) (hK.sub fun z hz=>by simpa[L12,B12]using hz)
def JK (cs:List Frame) (_:Nat→Prop) (g:Goroutine) (_:World):Prop:=∃a todo,g=G {b3.at a todo with mode:=.returning} cs∧Kn 74 [(4,.bool true)] a
theorem X8(hx:x.Ok)(hi:i=x.n)(ho:x.On Bs)(hd:∀b,Bs b→b<w.heap.size)(hF:FP x w)(hK:Kn 74 (B12 x i) a):
 GE prog true Bs (JK cs) (fun _=>False) (yV a cs) w:=by
 have hiz:¬((i:Int)<(x.n:Int)):=by omega
 obtain⟨ao,hv,_⟩:=hx.v;unfold B12 at hK;unfold yV;refine au rfl (fun _=>JI) fun w₁ y=>?_
 replace hF:=aA ho hF y
 replace hd:=fun b hb=>aH (hd b hb) y.size
 clear y;unfold LC1;refine au rfl (fun _=>stepG_seq) fun w₁ y=>?_
 replace hF:=aA ho hF y
 replace hd:=fun b hb=>aH (hd b hb) y.size
 clear y;refine au rfl (fun _=>stepG_region) fun w₁ y=>?_
 replace hF:=aA ho hF y
 replace hd:=fun b hb=>aH (hd b hb) y.size
 clear y;rw[ZM];refine aR hK Sl (ai rfl) (by decide) (.inl rfl) (hK.get (List.mem_cons_self)) rfl (by decide) rfl fun a w₁ y hK=>?_
 replace hF:=aA ho hF y
 replace hd:=fun b hb=>aH (hd b hb) y.size
 clear y;refine aR hK Sn (ai rfl) (by decide) (.inl rfl) (hK.get (List.mem_cons_of_mem _ (List.mem_cons_of_mem _ (List.mem_cons_of_mem _ List.mem_cons_self)))) rfl (by decide) rfl fun a w₁ y hK=>?_
 replace hF:=aA ho hF y
 replace hd:=fun b hb=>aH (hd b hb) y.size
 clear y;refine bZ (v:=.int .i64 x.n) hK Sq (ai rfl) (by decide) rfl (by decide) rfl (fun w=>by have e0:=hK.at (List.mem_cons_self);constructor<;>(unfold execOp;simp[go_sem,e0,hv])) fun a w₁ y hK=>?_
 replace hF:=aA ho hF y
 replace hd:=fun b hb=>aH (hd b hb) y.size
 clear y;refine bZ (v:=.bool false) hK Sr (ai rfl) (by decide) rfl (by decide) rfl (fun w=>by have e0:=hK.at (List.mem_cons_of_mem _ (List.mem_cons_of_mem _ List.mem_cons_self));have e1:=hK.at (List.mem_cons_self);constructor<;>(unfold execOp;simp[go_sem,e0,e1,hi,hiz])) fun a w₁ y hK=>?_
 replace hF:=aA ho hF y
 replace hd:=fun b hb=>aH (hd b hb) y.size
 clear y;refine au rfl (fun _=>stepG_region_end) fun w₁ y=>?_
 replace hF:=aA ho hF y
 replace hd:=fun b hb=>aH (hd b hb) y.size
 clear y;refine au rfl (fun _=>stepG_cond (t:=false) (hK.get (List.mem_cons_self))) fun w₁ y=>?_
 replace hF:=aA ho hF y
 replace hd:=fun b hb=>aH (hd b hb) y.size
 clear y;simp only[Bool.false_eq_true, ↓reduceIte];refine au rfl (fun _=>stepG_exit rfl) fun w₁ y=>?_
 replace hF:=aA ho hF y
 replace hd:=fun b hb=>aH (hd b hb) y.size
 clear y;refine au rfl (fun _=>stepG_seq) fun w₁ y=>?_
 replace hF:=aA ho hF y
 replace hd:=fun b hb=>aH (hd b hb) y.size
 clear y;refine au rfl (fun _=>stepG_region) fun w₁ y=>?_
 replace hF:=aA ho hF y
 replace hd:=fun b hb=>aH (hd b hb) y.size
 clear y;rw[ac2];refine aR (v:=.bool true) hK X4 (ai rfl) (by decide) (.inr rfl) rfl rfl (by decide) rfl fun a w₁ y hK=>?_
 replace hF:=aA ho hF y
 replace hd:=fun b hb=>aH (hd b hb) y.size
 clear y;refine au rfl (fun _=>stepG_region_end) fun w₁ y=>?_
 replace hF:=aA ho hF y
 replace hd:=fun b hb=>aH (hd b hb) y.size
 clear y;refine au rfl (fun _=>stepG_ret') fun w₁ y=>?_
 replace hF:=aA ho hF y
 replace hd:=fun b hb=>aH (hd b hb) y.size
 clear y
 replace hK:=hK.sub (L':=[(4,.bool true)]) (by intro p hp;simp only[di,eU,eX]at hp ⊢;rcases hp with rfl<;>simp)
 exact GE.stop fun w₂ y=>⟨a,[.code .ret],rfl,hK⟩
theorem Zt(hx:x.Ok):∀r i,i+r=x.n→D_ x (JK cs) cs i:=by
 intro r;induction r with
 |zero=>intro i hi Bs a w ho hd hF hK;exact X8 hx (by omega) ho hd hF hK
 |succ r ih=>
  intro i hi Bs a w ho hd hF hK;have hlt:i<x.T.length:=by have:=hx.nT;omega
  exact Za (fun _ _ _ _ h=>h) hx (by omega) (gK hlt) (ih (i+1) (by omega)) ho hd hF hK
theorem Om{T:Array Value}{rest:List Nat}(hx:x.Ok)(ho:x.On Bs)(hd:∀b,Bs b→b<w.heap.size)(hF:FP x w)(hT:V5 x.db T)(hrest:Mm.contains rest=true)(hK:Kn 74 [(5,x.v),(2,.pointer (some ⟨x.sb,0,none⟩))] a):
 GE prog true Bs (JK cs) (fun _=>False) (LP T (b3.at a (.inRegion e6 (5::rest)::[.code RB])::cs)) w:=by
 refine ML ho hT hF fun w' y=>?_;refine RD hrest hx ho (fun b hb=>aH (hd b hb) y.size) (aA ho hF y) (hK.put (d:=36) (by decide) rfl _) fun a' w'' h1 h2 h3=>?_;exact Zt hx x.n 0 (lG _) Bs a' w'' ho h3 h2 h1
end
open Go.ConcR (KK wgBlock WgAt stA smA rd wr Payload Aside2 DC0 ofEvent_cell)
set_option linter.unusedSimpArgs false
set_option linter.unusedVariables false
theorem RZ(hp: -9223372036854775808≤p∧p≤9223372036854775807)(hq: -9223372036854775808≤q∧q≤9223372036854775807)(hg:fD W)(ht:iE W)(t:ByteArray)(hs:t.size≤281474976710656):∃U:ByteArray,bl U=Gg (nA p) (ny q) t:=by obtain⟨e,V,_,⟨v,_,fb,_,L,h1,_,_⟩,_⟩:=N_ (t:=t) hp hq hs (zL hg ht) (mK hg) W.tape 0 [];have hok:((agM.fresh (nA p) (ny q)).feed (bl t)).Ok:=(agM.Ok.fresh (mY p) (mX q)).feed _ (nJ t);obtain⟨e,V',_,⟨⟨U,_,hU⟩,_⟩,_⟩:=yN fb L _ hok.t (vK (nA p) (ny q) (mY p) (mX q) _ (nJ t)) V h1 [];exact⟨U,hU⟩
theorem Rv(h:runNT P N m t=(.next m',t')):runN P N m= .next m':=by rw[←runNT_fst _ _ _ t,h]
theorem LY{K:Nat}{t'':Trace}{o:Outcome}{w':World}(h:runNT P N m t=(.next m',t'))(hk:runNT P K m' t'=(.ended o w',t'')):runNT P (N+K) m t=(.ended o w',t''):=by
 induction N generalizing m t with
 |zero=>simp only[runNT,Prod.mk.injEq,Stepped.next.injEq]at h;obtain⟨rfl,rfl⟩:=h;rw[lG];exact hk
 |succ N ih=>
  rw[Nat.succ_add,runNT];rw[runNT]at h;cases hs:stepT P m with
  |mk s ops=>
   rw[hs]at h;cases s with
   |next m1=>exact ih h
   |_=>simp at h
theorem Rw{K:Nat}{m'':Machine}(h:runN P N m= .next m')(hk:runN P K m'= .next m''):runN P (N+K) m= .next m'':=by
 induction N generalizing m with
 |zero=>simp only[runN,Stepped.next.injEq]at h;subst h;rw[lG];exact hk
 |succ N ih=>
  rw[Nat.succ_add,runN];rw[runN]at h;cases hs:Go.step P m with
  |next m1=>rw[hs]at h;exact ih h
  |_=>rw[hs]at h;simp at h
structure NI (W:World) (v:Value) (w:World):Prop where
 v:v= .bool true
 keep:∀b,b<W.heap.size→w.heap[b]? =W.heap[b]?
 size:W.heap.size≤w.heap.size
 os:w.os=W.os
 o:w.output=W.output
 tape:w.tape=W.tape
theorem abR{todo:List Item}{w:World}(hK:Kn 74 [(4,.bool true)] a):∃es,stepG prog true (G {b3.at a todo with mode:=.returning} []) w= .ended (.done (.bool true)) w es∧es= #[]:=by have e:=hK.at List.mem_cons_self;have hf:prog.funcs[b3.fn]? =some f3:=func3;have hr:f3.results= #[.tmp 4]:=rfl;refine⟨#[],?_,rfl⟩;simp[G,stepG,unwind,doReturn,Frame.at,hK.df,hf,b3,base,results,hr,e,seen,GStep.after]
theorem Je{ao:Option Addr}{cap:Nat}{T:List ByteArray}(h:In3 W p q ao cap T)(hK:Kn 74 [(0,.agg #[.int .i64 p,.int .i64 q]),(1,.slice ao T.length cap)] a):
 ∃N last o w' t',runNT prog (N+1) (solo (G (b3.at a [.code lI]) []) W) #[]=(.ended o w',t')∧runN prog N (solo (G (b3.at a [.code lI]) []) W)= .next last∧Go.step prog last= .ended o w'∧Conc.Good prog (NI W) last o w' t':=by
 have ex:∀k:Nat,∃U:ByteArray,∀t,T[k]? =some t→bl U=Gg (nA p) (ny q) t:=fun k=>by
  cases hk:T[k]? with
  |none=>exact⟨⟨#[]⟩,fun t ht=>by cases ht⟩
  |some t=>obtain⟨U,hU⟩:=RZ h.p h.q h.g h.t t (h.s t (fu hk));exact⟨U,fun t' ht=>by cases ht;exact hU⟩
 obtain⟨Us,hUs⟩:=Classical.axiomOfChoice ex;obtain⟨N1,m1,t1,e1,gs,w,sl,a0,qs,Tm,db,C,Wg,sb,gb,cap',v,a1,rest,rfl,g0,hL,hP,UM,hrest,hK1,hgo,Re,hres,Zb,hv,htx,⟨n1,n2,n3,n4,n5⟩,hWg,ab9,kp,os1,Vj,tp1⟩:=RU h hK (fun k t _ ht=>hUs k t ht);obtain⟨N2,gs2,sl2,t2,qs2,a2,w2,e2,g2,ha2,k2,hL2,hP2⟩:=BT.runs (vE:=fun _=>True) (BT.uJ hgo) (fun g w x=>by rw[x];rfl) gs sl t1 qs g0 hL hP;subst ha2;have eh:∀b,w2.heap[b]? =w.heap[b]? :=fun b=>k2.keep b trivial;let x:PP:={db:=db,C:=C,sb:=sb,gb:=gb,n:=min T.length 16,cap:=cap',p:=p,q:=q,v:=v,T:=T,Us:=Us};have hx:x.Ok:=⟨by show min T.length 16≤16;omega,by show min T.length 16≤T.length;omega,h.p,h.q,hv,h.s,fun k t _ ht=>hUs k t ht⟩;have lt:∀{b:Nat} {o:Obj},w.heap[b]? =some o→b<w2.heap.size:=fun h=>aH (kP.1 h).1 k2.size;have ltc:∀{b i:Nat} {u:Value},w.cell? ⟨b,i,none⟩=some u→b<w2.heap.size:=fun h=>aH (DT _ _ h) k2.size;have hC:C<w2.heap.size:=aH n5 k2.size
 have ho:x.On (fun b=>b<w2.heap.size∧b≠Wg):=⟨fun b hb=>⟨by have:=h.h7;have:=k2.size;omega,by have:=h.h7;omega⟩,⟨lt Re,n1⟩,⟨hC,n2⟩,⟨lt Zb,n3⟩,fun h0=>⟨by
  obtain⟨t,ht⟩:∃t,T[0]? =some t:=⟨_,gK (show 0<T.length by have h0':0<min T.length 16:=h0;omega)⟩
  exact ltc (htx 0 t h0 ht),n4 h0⟩⟩
 have hG:fD w2:=fun b hb=>by obtain⟨o,ho',y⟩:=h.g b hb;exact⟨o,((eh b).trans (kp b (by have:=h.h7;omega))).trans ho',y⟩
 have hT2:iE w2:=h.t.kept fun k hk=>(eh k).trans (kp k (by have:=h.h7;omega));have hF:FP x w2:=⟨(cell_of_block (eh db) 0).trans (iN Re).1,fun i hi=>(cell_of_block (eh C) i).trans (hres i hi),(eh sb).trans Zb,fun i t hi ht=>(cell_of_block (eh gb) i).trans (htx i t hi ht),hG,hT2⟩;obtain⟨r3,h3⟩:=Om (cs:=[]) hx ho (fun b hb=>hb.1) hF UM hrest hK1;have h3':=BT.ZF (Wg:=Wg) (vE:=fun b=>b<w2.heap.size) (Stop:=fun g w=>JK [] (fun _=>False) g w) (fun y=>y.2 rfl) (fun S g w y _=>y) h3 id (aH ab9 k2.size) (fun b hb=>⟨hb,id⟩);obtain⟨N3,gs3,sl3,t3,qs3,a3,w3,e3,g3,⟨a4,todo,rfl,hK4⟩,k3,hL3,hP3⟩:=BT.runs h3' (fun g w y=>by obtain⟨_,_,rfl,_⟩:=y;rfl) gs2 sl2 t2 qs2 g2 hL2 hP2;have hpost:∀d,NI W (.bool true) (w3.at d):=fun d=>⟨rfl,fun b hb=>(k3.keep b (by have:=k2.size;omega)).trans ((eh b).trans (kp b hb)),by have:=k2.size;have:=k3.size;show W.heap.size≤w3.heap.size;omega,k3.os.trans (k2.os.trans os1),k3.o.trans (k2.o.trans Vj),k3.tape.trans (k2.tape.trans tp1)⟩;obtain⟨N4,last,o,w4,t4,e4,e5,e6,hgood⟩:=EJ (P:=prog) (Wg:=Wg) (Post:=NI W) (w:=w3) rfl (fun d=>by obtain⟨es,h1,h2⟩:=abR (todo:=todo) (w:=w3.at d) hK4;exact⟨es,h1,fun e he=>by rw[h2]at he;simp at he⟩) hpost _ gs3 sl3 t3 qs3 w3.drawn (bE _) g3 hL3 hP3;have hE:=oU e1 (oU e2 e3);refine⟨N1+(N2+N3)+N4,last,o,w4,t4,?_,Rw (Rv hE) e5,e6,hgood⟩;rw[Nat.add_assoc];exact LY hE e4
end Go.Proofs.YtheibfffilomcabGreatDoor
