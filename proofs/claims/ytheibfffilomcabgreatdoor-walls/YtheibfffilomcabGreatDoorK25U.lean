import Derived.Test.YtheibfffilomcabGreatDoorR4U
import Derived.Test.YtheibfffilomcabGreatDoorK23U
set_option linter.all false
set_option maxRecDepth 100000
set_option maxHeartbeats 4000000
namespace Go.Proofs.YtheibfffilomcabGreatDoor
open Go.Ren Go.Conc Go.ConcN Go.RowKit Go.Conc.Lib Go.ConcR.Gen Go.ConcN.Gen Go.Proofs.Tryz
variable {V w:World} {p q:Int} {t:ByteArray} {fb:Nat}
open Go.ConcR (KK wgBlock WgAt stA smA rd wr Payload Aside2 DC0 ofEvent_cell)
set_option linter.unusedSimpArgs false
set_option linter.unusedVariables false
def xq (w:World) (t:ByteArray):World:=(qR w).alloc (.cells #[.string t] 9)
def O_ (tb:Nat) (b:Nat):Nat:=if b=7 then tb else b
section
variable {w:World} {t:ByteArray} {tb:Nat}
theorem kz(h:fD w):(xq w t).heap.size=8:=by simp[xq,gm h]
theorem rR(h:fD w){b:Nat}(hb:b<7):(xq w t).heap[b]? =w.heap[b]? :=(h_ _ _ _ (by rw[gm h];exact hb)).trans (l_ hb)
theorem mK(h:fD w):(xq w t).heap[7]? =some (.cells #[.string t] 9):=by have:=bJ (qR w) (.cells #[.string t] 9);rw[gm h]at this;exact this
theorem EE(h:fD w)(h7:7≤tb)(ht:w.heap[tb]? =some (.cells #[.string t] 9)):HR 7 (O_ tb) (xq w t) w:=by
 have hz:=kz (t:=t) h;have h0:=qO h;have hlt:=(kP.1 ht).1;obtain⟨o6,ho6,_⟩:=h 6 (by omega);have hs:=(kP.1 ho6).1;refine⟨fun a b ha hb e=>?_,fun b hb=>?_,fun b hb=>?_,fun b h1 h2=>?_,by omega,fun ρ e b hb=>?_,fun b c ty hx=>?_,rfl⟩
 ·simp only[O_]at e;rw[hz]at ha hb;split at e<;>split at e<;>omega
 ·simp only[O_];rw[hz]at hb;split<;>omega
 ·simp only[O_];rw[aG (by omega)]
 ·have:b=7:=by omega
  subst this;simp[O_,h7]
 ·rw[hz]at hb;rcases Nat.lt_or_ge b 7 with hb'|hb'
  ·obtain⟨o,ho,h1,_⟩:=h b hb';rw[rR h hb'];simp[O_,show b≠7 by omega,ho,h1]
  ·have:b=7:=by omega
   subst this;rw[mK h];simp[O_,ht,lM,mv]
 ·rcases Nat.lt_or_ge b 7 with hb|hb
  ·rw[rR h hb]at hx;obtain⟨o,ho,_,h2⟩:=h b hb;rw[ho]at hx;cases hx;exact h2 c ty rfl
  ·rcases Nat.lt_or_ge 7 b with hb'|hb'
   ·rw[qh (by omega)]at hx;cases hx
   ·have:b=7:=by omega
    subst this;rw[mK h]at hx;cases hx
theorem LG(h:fD w):own 7 (O_ tb) (xq w t)=fun b=>b=tb:=by
 funext b;apply propext;constructor
 ·rintro⟨i,h1,h2,h3⟩;rw[kz h]at h2;have:i=7:=by omega
  subst this;simpa[O_]using h3.symm
 ·rintro rfl;exact⟨7,bE _,by rw[kz h];omega,by simp[O_]⟩
theorem En(h:fD w):∀τ,uq 7 τ→Go.Ren.Clean τ (xq w t):=by
 intro τ eY;obtain⟨c1,c2⟩:=nK h τ eY;refine⟨fun x o hx=>?_,fun x hx=>c2 x (by rw[gm h];rw[kz h]at hx;omega)⟩;rcases Nat.lt_or_ge x 7 with hb|hb
 ·rw[rR h hb]at hx;exact c1 x o ((l_ hb).trans hx)
 ·rcases Nat.lt_or_ge 7 x with hb'|hb'
  ·rw[qh (by rw[kz h];omega)]at hx;cases hx
  ·have:x=7:=by omega
   subst this;rw[mK h]at hx;cases hx;simp[lM,mv]
theorem aaf(h:fD w)(τ:Nat→Nat)(eY:uq 7 τ):τ 7=7:=(nK h τ eY).2 7 (by rw[gm h];exact bE _)
theorem zL(h:fD w)(ht:iE w):iE (xq w t):=ht.kept fun k hk=>rR h (by omega)
end
def Sn (p q:Int) (t:ByteArray) (v:Value) (V:World):Prop:=∃fb,v= .tuple #[.pointer (some ⟨fb,0,none⟩),.bool true]∧PF fb ((agR.fresh (nA p) (ny q)).feed (bl t)) V
theorem Oc(hp: -9223372036854775808≤p∧p≤9223372036854775807)(hq: -9223372036854775808≤q∧q≤9223372036854775807)(ht:t.size≤281474976710656)(hV:iE V)(h7:V.heap[7]? =some (.cells #[.string t] 9))(tp:Nat→Question→Nat)(d:Nat):
 Calls prog 8 #[.agg #[.int .i64 p,.int .i64 q],.slice (some ⟨7,0,none⟩) 1 1] (on V tp d) fun e w=>∃v,e= .returned v∧Sn p q t v w:=by
 have hlt:=(kP.1 h7).1;have hz:(on V tp d).heap.size=V.heap.size:=rfl;have h7':(on V tp d).heap[7]? =some (.cells #[.string t] 9):=h7;have:=Q5 p q (some ⟨7,0,none⟩) 1 [t] (on V tp d) hp hq (uu hV tp d) (fun j x hj=>?_) (by simp) (by simpa using ht)
 ·refine this.mono ?_;rintro e w' ⟨fb,L,rfl,hA,hB⟩;refine⟨_,rfl,fb,rfl,L,?_,(uu hV tp d).kept fun k hk=>hB.block k (by omega),by have:=hA.fb;omega⟩;have e:xM [t]=bl t:=by simp[xM]
  rw[←e];exact hA.f
 ·cases j with
  |zero=>simp at hj;subst hj;exact⟨7,0,rfl,by omega,by simp[World.cell?,h7']⟩
  |succ j=>simp at hj
theorem Xt{x:agR}{v:Value}{Post:Value→World→Prop}(ht:Tidy (uq 7) Post v V)(hp:PF fb x V)(hv:v= .tuple #[.pointer (some ⟨fb,0,none⟩),.bool true]):TV x fb V:=by refine⟨hp,ht.2.1,fun τ eY=>⟨(ht.2.2 τ eY).1,?_⟩⟩;have:=(ht.2.2 τ eY).2;subst hv;simpa[mv]using this
theorem TM{U:ByteArray}(hU:bl U=Gi (nA p) (ny q) t)(hf:PF fb ((agR.fresh (nA p) (ny q)).feed (bl t)) V)(tp:Nat→Question→Nat)(d:Nat):
 Calls prog 9 #[.pointer (some ⟨fb,0,none⟩)] (on V tp d) fun e w=>∃v,e= .returned v∧v= .string U:=by
 obtain⟨L,h1,h2,h3⟩:=hf;have hok:((agR.fresh (nA p) (ny q)).feed (bl t)).Ok:=(agR.Ok.fresh (mY p) (mX q)).feed _ (nJ t);refine(yN fb L _ hok.t (vK (nA p) (ny q) (mY p) (mX q) _ (nJ t)) (on V tp d) (BZ h1 tp d)).mono ?_;rintro e w' ⟨⟨U',rfl,hU'⟩,_⟩;have:U'=U:=Ck (by rw[hU',hU];rfl);subst this;exact⟨_,rfl,rfl⟩
structure H8 (x:PP) (Bs:Nat→Prop) (π:Nat→Nat) (V w:World):Prop where
 f:FP x w
 hr:HR 7 π V w
 d:∀b,Bs b→b<w.heap.size∧¬own 7 π V b
theorem H8.rely{x:PP}{Bs:Nat→Prop}{π:Nat→Nat}{w₁:World}(ho:x.On Bs)(h:H8 x Bs π V w)(q:RY (fun b=>Bs b∨own 7 π V b) w w₁):H8 x Bs π V w₁:=
 ⟨aA ho h.f q,h.hr.rely ⟨fun y hy=>q.keep y (hy.imp (ho.b7 y) id),q.size,q.os⟩,bH h.d q.size⟩
section
variable {main:Bool} {Bs:Nat→Prop} {Stop:(Nat→Prop)→Goroutine→World→Prop} {w:World} {b:Frame} {a:Act} {kk:List Item} {cs:List Frame} {ops:Array Oper} {i:Nat} {rest:List Nat} {o:Oper} {n:Nat} {L:List (Nat × Value)} {d:Nat}
theorem Q7{o₀:Obj}{v:World→Value}(hK:Kn n L a)(ho:ops[i]? =some o)(hw:Region.wanted o (yielded ops a.tmps)=true)(hk:b.kind≠ .early)(hdst:o.dst=some d)(hd:d<n)(hL:(L.all fun p=>p.1 != d)=true)(hr:∀w,(execOp a.eval o).run prog w= .ok (.value (v w)) (w.alloc o₀)∧(execOp a.eval o).events prog w #[]= #[])(h:∀a' w₁,RY (fun b=>Bs b∨False) w w₁→Kn n ((d,v w₁)::L) a'→GE prog main Bs Stop (fun b=>b=w₁.heap.size) (G (b.at a' (.inRegion ops rest::kk)) cs) (w₁.alloc o₀)):
 GE prog main Bs Stop (fun _=>False) (G (b.at a (.inRegion ops (i::rest)::kk)) cs) w:=by
 refine GE.step rfl fun w₁ q=>?_;have hl:listed prog b.fn a o w₁= #[]:=by unfold listed;rw[(hr w₁).2,seen_none]
 have eS:grown (fun _=>False) w₁ (w₁.alloc o₀)=fun b=>b=w₁.heap.size:=by
  funext b;apply propext;simp only[grown,false_or];have:(w₁.alloc o₀).heap.size=w₁.heap.size+1:=by simp
  rw[this];omega
 refine⟨_,_,_,stepG_value ho hw hk (hr w₁).1,?_,by rw[eS,hdst];exact h _ w₁ q (hK.put hd hL (v w₁))⟩;rw[hl];exact⟨fun x hx _=>h_ _ _ _ hx,by simp,rfl,rfl,rfl,fun e he=>by simp at he⟩
end
open Go.ConcR (KK wgBlock WgAt stA smA rd wr Payload Aside2 DC0 ofEvent_cell)
set_option linter.unusedSimpArgs false
set_option linter.unusedVariables false
noncomputable def TLC:Code:=.seq (.region 18 e18 false) .ret
noncomputable def BF:Code:=.seq (.region 16 e16 false) (.cond (.tmp 73) (.seq (.region 17 e17 false) .ret) .skip)
noncomputable def BE:Code:=.seq (.region 15 e15 false) BF
noncomputable def BD:Code:=.seq (.seq (.region 13 e13 false) (.cond (.tmp 65) (.seq (.region 14 e14 false) .ret) .skip)) BE
noncomputable def BC:Code:=.seq (.region 12 e12 true) BD
noncomputable def LC1:Code:=.seq (.region 10 e10 false) (.cond (.tmp 51) .skip (.exit 2))
noncomputable def LC2:Code:=.seq (.block 3 BC) (.region 11 e11 false)
theorem JK{main:Bool}{b:Frame}{a:Act}{k:List Item}{cs:List Frame}:stepG prog main (G (b.at a (.code LC::k)) cs) w= .go (G (b.at a (.code LC1:: .code LC2::k)) cs) w #[]:=by rw[Xr];exact stepG_seq
noncomputable def KI:List Item:=[.inBlock 3,.code (.region 11 e11 false),.inLoop LC,.inBlock 2,.code TLC]
theorem nm8:(f8.name== "runtime.NumGoroutine")=false:=by kernel_rfl
theorem nm9:(f9.name== "runtime.NumGoroutine")=false:=by kernel_rfl
def FX:List (List Nat):=[[7,8,9,10,11],[7,8,10,9,11],[7,9,8,10,11]]
def Bb:Bool→List Nat→Bool
 |true,i::l=>Nat.beq i 6&&FX.contains l
 |false,i::j::l=>Nat.beq i 0&&Nat.beq j 6&&FX.contains l
 |_,_=>false
def O5:(Nat→Bool)→List Nat→Bool
 |D,i::l=>if Nat.beq i 5 then D 4&&Bb (D 0) l else Nat.ble i 4&& !D i&&(!Nat.beq i 3||(D 1&&D 2))&&(!Nat.beq i 4||D 3)&&O5 (FK D i) l
 |_,[]=>false
theorem Xz:(qH e12 e12.size (Array.replicate e12.size false)).all (O5 fun _=>false)=true:=by kernel_rfl
def wN (x:PP) (i:Nat) (t:ByteArray):Nat→Value
 | 0=>.agg #[.int .i64 x.p,.int .i64 x.q]
 | 1=>x.v
 | 2=>.int .i64 ((i:Nat):Int)
 | 3=>.pointer (some ⟨x.gb,i,none⟩)
 |_=>.string t
def B12 (x:PP) (i:Nat):List (Nat × Value):=[(9,.int .i64 ((i:Nat):Int)),(7,.slice (some ⟨x.C,0,none⟩) x.n x.n),(5,x.v),(2,.pointer (some ⟨x.sb,0,none⟩))]
def L12 (x:PP) (i:Nat) (t:ByteArray) (D:Nat→Bool):List (Nat × Value):=B12 x i++((List.range 5).filter D).map fun j=>(55+j,wN x i t j)
section
variable {x:PP} {i:Nat} {t:ByteArray} {D:Nat→Bool} {a:Act}
theorem EO{j:Nat}(hj:j<5)(hD:D j=true):(55+j,wN x i t j)∈L12 x i t D:=List.mem_append_right _ (List.mem_map.2 ⟨j,List.mem_filter.2 ⟨List.mem_range.2 hj,hD⟩,rfl⟩)
theorem J3{j:Nat}(hj:j<5)(hD:D j=false):((L12 x i t D).all fun y=>y.1 != 55+j)=true:=by
 rw[List.all_eq_true];intro y hy;simp only[L12,B12,oq,di,eU,eX,List.mem_map,List.mem_filter,List.mem_range]at hy;rcases hy with(rfl|rfl|rfl|rfl)|⟨k,⟨hk,UT⟩,rfl⟩
 ·simp;omega
 ·simp;omega
 ·simp;omega
 ·simp;omega
 ·simp only[bne_iff_ne,ne_eq];intro e;have:k=j:=by omega
  subst this;rw[hD]at UT;cases UT
theorem Oq:((L12 x i t D).all fun y=>y.1 != 60)=true:=by
 rw[List.all_eq_true];intro y hy;simp only[L12,B12,oq,di,eU,eX,List.mem_map,List.mem_filter,List.mem_range]at hy;rcases hy with(rfl|rfl|rfl|rfl)|⟨k,⟨hk,UT⟩,rfl⟩
 ·rfl
 ·rfl
 ·rfl
 ·rfl
 ·simp;omega
theorem Vh{j:Nat}(hj:j<5){n:Nat}(h:Kn n ((55+j,wN x i t j)::L12 x i t D) a):Kn n (L12 x i t (FK D j)) a:=by
 refine h.sub fun y hy=>?_;simp only[L12,oq,di,List.mem_map,List.mem_filter,List.mem_range,FK,Bool.or_eq_true]at hy ⊢;rcases hy with hy|⟨k,⟨hk,UT⟩,rfl⟩
 ·exact .inr (.inl hy)
 ·rcases UT with e|UT
  ·have e:=Nat.eq_of_beq_eq_true e;subst e;exact .inl rfl
  ·exact .inr (.inr ⟨k,⟨hk,UT⟩,rfl⟩)
end
section
variable {x:PP} {Bs:Nat→Prop} {Stop:(Nat→Prop)→Goroutine→World→Prop} {w:World} {a:Act} {cs:List Frame} {i:Nat} {t:ByteArray} {kk:List Item} {rest:List Nat}
theorem Eu(hx:x.Ok)(ho:x.On Bs)(hd:∀b,Bs b→b<w.heap.size)(hF:FP x w)(hts:t.size≤281474976710656){tb:Nat}(h7:7≤tb)(htb:w.heap[tb]? =some (.cells #[.string t] 9))(hnb:¬Bs tb)(hK:Kn 74 ((60,.slice (some ⟨tb,0,none⟩) 1 1)::(55,.agg #[.int .i64 x.p,.int .i64 x.q])::B12 x i) a)(next:∀π V fb a' w',H8 x Bs π V w'→TV ((agR.fresh (nA x.p) (ny x.q)).feed (bl t)) fb V→Kn 74 ((61,.tuple #[.pointer (some ⟨π fb,0,none⟩),.bool true])::B12 x i) a'→GE prog true Bs Stop (own 7 π V) (G (b3.at a' (.inRegion e12 rest::kk)) cs) w'):
 GE prog true Bs Stop (fun b=>b=tb) (G (b3.at a (.inRegion e12 (6::rest)::kk)) cs) w:=by
 have hown:=LG (t:=t) (tb:=tb) hF.g;rw[←hown];have e55:=hK.get (List.mem_cons_of_mem _ List.mem_cons_self);have e60:=hK.get List.mem_cons_self;refine rQ Lj ho.b7 (Ex ho) (Post:=Sn x.p x.q t) (fun v V τ d y=>let⟨fb,h1,h2⟩:=y;⟨fb,h1,h2.on τ d⟩) (f:=8) (jW:=#[.agg #[.int .i64 x.p,.int .i64 x.q],.slice (some ⟨7,0,none⟩) 1 1]) rfl ZV (EE hF.g h7 htb).np (fun τ eY=>⟨En hF.g τ eY,by simp[mv,bW,aaf hF.g τ eY]⟩) (Oc hx.p hx.q hts (zL hF.g hF.t) (mK hF.g)) (EE hF.g h7 htb) XR (ai rfl) (by decide) rfl func8 nm8 rfl (fun w₁ ρ e=>?_) (fun b hb=>⟨hd b hb,fun y=>by rw[hown]at y;subst y;exact hnb hb⟩) hF ?_
 ·have e7:ρ 7=tb:=by rw[e.old 7 (by rw[kz hF.g];omega)];simp[O_]
  simp[e55,e60,mv,bW,e7]
 ·intro zU V' v' w' hr' _ ht hF' hd';obtain⟨fb,hv,hpf⟩:=ht.1;have OD:=Xt ht hpf hv;have hc:canon zU V' w' fb=zU fb:=(iY hr').old fb hpf.lt;have hmv:mv (canon zU V' w') v'= .tuple #[.pointer (some ⟨zU fb,0,none⟩),.bool true]:=by rw[hv];simp[mv,bW,hc]
  rw[hmv];refine next zU V' fb _ w' ⟨hF',hr',hd'⟩ OD ?_;exact(hK.put (d:=61) (by decide) rfl _).sub fun y hy=>by
   simp only[di]at hy ⊢;rcases hy with hy|hy
   ·exact .inl hy
   ·exact .inr (.inr (.inr hy))
theorem ZM(hx:x.Ok)(hi:i<x.n)(ht:x.T[i]? =some t)(next:∀π V fb a' w' rest,FX.contains rest=true→H8 x Bs π V w'→TV ((agR.fresh (nA x.p) (ny x.q)).feed (bl t)) fb V→Kn 74 ((61,.tuple #[.pointer (some ⟨π fb,0,none⟩),.bool true])::B12 x i) a'→GE prog true Bs Stop (own 7 π V) (G (b3.at a' (.inRegion e12 rest::kk)) cs) w')(ho:x.On Bs):
 ∀(l:List Nat) (D:Nat→Bool) (a:Act) (w:World),O5 D l=true→(∀b,Bs b→b<w.heap.size)→FP x w→Kn 74 (L12 x i t D) a→
  GE prog true Bs Stop (fun _=>False) (G (b3.at a (.inRegion e12 l::kk)) cs) w:=by
 intro l;have hts:t.size≤281474976710656:=hx.s t (fu ht);obtain⟨ao,hv,hao⟩:=hx.v;have hao':=hao (by omega);subst hao';induction l with
 |nil=>intro D a w h;simp[O5]at h
 |cons j l ih=>
  intro D a w hok hd hF hK;have hsb:a.eval (.tmp 2)= .pointer (some ⟨x.sb,0,none⟩):=hK.get (by simp[L12,B12]);have h5v:a.eval (.tmp 5)=x.v:=hK.get (by simp[L12,B12]);have h9v:a.eval (.tmp 9)= .int .i64 ((i:Nat):Int):=hK.get (by simp[L12,B12]);simp only[O5]at hok;by_cases h5:Nat.beq j 5=true
  ·rw[aS h5]at hok;have e:=Nat.eq_of_beq_eq_true h5;subst e;simp only[Bool.and_eq_true]at hok;obtain⟨d4,hl⟩:=hok;have a4:=hK.at (EO (j:=4) (by omega) d4);refine Q7 (o₀:=.cells #[.string t] 9) (v:=fun w=>.slice (some ⟨w.heap.size,0,none⟩) 1 1) hK XQ (ai rfl) (by decide) rfl (by decide) Oq (fun w=>by simp only[wN]at a4;constructor<;>(unfold execOp;simp[go_sem,a4])) fun a' w₁ y hK'=>?_;have hF1:=aA ho hF y;have hd1:∀b,Bs b→b<w₁.heap.size:=fun b hb=>aH (hd b hb) y.size;have hz:(w₁.alloc (.cells #[.string t] 9)).heap.size=w₁.heap.size+1:=by simp
   have hF2:FP x (w₁.alloc (.cells #[.string t] 9)):=Ex ho w₁ _ (fun b hb=>h_ _ _ _ (hd1 b hb)) (by rw[hz];omega) rfl hF1;have hd2:∀b,Bs b→b<(w₁.alloc (.cells #[.string t] 9)).heap.size:=fun b hb=>by rw[hz];have:=hd1 b hb;omega
   have htb:=bJ w₁ (.cells #[.string t] 9);have h7:7≤w₁.heap.size:=by have:=hd1 6 (ho.b7 6 (by omega));omega
   have hnb:¬Bs w₁.heap.size:=fun z=>Nat.lt_irrefl _ (hd1 _ z);generalize w₁.heap.size=tb at hK' htb h7 hnb ⊢;generalize (w₁.alloc (.cells #[.string t] 9))=w₂ at htb hF2 hd2 ⊢;cases hD0:D 0 with
   |true=>
    rw[hD0]at hl
    match l,hl with
    | [],hl=>simp[Bb]at hl
    |j::rest,hl=>
     simp only[Bb,Bool.and_eq_true]at hl;have e:=Nat.eq_of_beq_eq_true hl.1;subst e;refine Eu hx ho hd2 hF2 hts h7 htb hnb (hK'.sub fun y hy=>?_) fun π V fb a'' w'' h1 h2 h3=>next π V fb a'' w'' rest hl.2 h1 h2 h3;have m0:=EO (x:=x) (i:=i) (t:=t) (j:=0) (by omega) hD0;simp only[di]at hy ⊢;rcases hy with hy|rfl|hy
     ·exact .inl hy
     ·exact .inr m0
     ·exact .inr (List.mem_append_left _ hy)
   |false=>
    rw[hD0]at hl
    match l,hl with
    | [],hl=>simp[Bb]at hl
    | [_],hl=>simp[Bb]at hl
    |j::j'::rest,hl=>
     simp only[Bb,Bool.and_eq_true]at hl;have e:=Nat.eq_of_beq_eq_true hl.1.1;subst e;have e:=Nat.eq_of_beq_eq_true hl.1.2;subst e;have hfr:(((60,Value.slice (some ⟨tb,0,none⟩) 1 1)::L12 x i t D).all fun y=>y.1 != 55)=true:=by simp only[List.all_cons,J3 (x:=x) (i:=i) (t:=t) (j:=0) (by omega) hD0,Bool.and_true];rfl
     refine xY hK' Sy (ai rfl) (by decide) rfl (hK'.get (by simp[L12,B12])) (.inl ho.sb) hF2.box xu rfl (by decide) hfr fun a'' w₃ y3 hK3=>?_;refine Eu hx ho (fun b hb=>aH (hd2 b hb) y3.size) (aA ho hF2 y3) hts h7 ((y3.keep tb (.inr rfl)).trans htb) hnb (hK3.sub fun y hy=>?_) fun π V fb a'' w'' h1 h2 h3=>next π V fb a'' w'' rest hl.2 h1 h2 h3;simp only[di]at hy ⊢;rcases hy with hy|hy|hy
     ·exact .inr (.inl hy)
     ·exact .inl hy
     ·exact .inr (.inr (List.mem_append_left _ hy))
  ·rw[aG h5]at hok;simp only[Bool.and_eq_true,Bool.not_eq_true',Bool.or_eq_true]at hok;obtain⟨⟨⟨⟨hj,hDj⟩,h3⟩,h4⟩,hl⟩:=hok;have hj:j<5:=by have:=Nat.le_of_ble_eq_true hj;omega
   have hfr:=J3 (x:=x) (i:=i) (t:=t) hj hDj;have cont:∀(a':Act) (w₁:World),RY (fun b=>Bs b∨False) w w₁→Kn 74 ((55+j,wN x i t j)::L12 x i t D) a'→GE prog true Bs Stop (fun _=>False) (G (b3.at a' (.inRegion e12 l::kk)) cs) w₁:=fun a' w₁ y hK'=>
    ih _ a' w₁ hl (fun b hb=>aH (hd b hb) y.size) (aA ho hF y) (Vh hj hK')
   match j,hj,hDj,h3,h4,hl,hfr,cont with
   | 0,_,_,_,_,_,hfr,cont=>exact xY hK Sy (ai rfl) (by decide) rfl hsb (.inl ho.sb) hF.box xu rfl (by decide) hfr fun a' w₁ y hK'=>cont a' w₁ y hK'
   | 1,_,_,_,_,_,hfr,cont=>exact aR hK XM (ai rfl) (by decide) (.inl rfl) h5v rfl (by decide) hfr fun a' w₁ y hK'=>cont a' w₁ y hK'
   | 2,_,_,_,_,_,hfr,cont=>exact aR hK XN (ai rfl) (by decide) (.inl rfl) h9v rfl (by decide) hfr fun a' w₁ y hK'=>cont a' w₁ y hK'
   | 3,_,_,h3,_,_,hfr,cont=>
     have YW:D 1=true∧D 2=true:=by rcases h3 with h|h;cases h;exact h
     have a1:=hK.at (EO (j:=1) (by omega) YW.1);have a2:=hK.at (EO (j:=2) (by omega) YW.2);have hiz:(i:Int)<(x.n:Int):=by omega
     have hi0:(0:Int)≤(i:Int):=by omega
     simp only[wN,hv]at a1 a2;exact bZ (v:=.pointer (some ⟨x.gb,i,none⟩)) hK XO (ai rfl) (by decide) rfl (by decide) hfr (fun w=>by constructor<;>(unfold execOp;simp[go_sem,a1,a2,hi,hiz,hi0])) fun a' w₁ y hK'=>cont a' w₁ y hK'
   | 4,_,_,_,h4,_,hfr,cont=>
     have hD3:D 3=true:=by rcases h4 with h|h;cases h;exact h
     exact J8 (.inr (.inl rfl)) (ad:=⟨x.gb,i,none⟩) hK XP (ai rfl) (by decide) rfl (hK.get (EO (j:=3) (by omega) hD3)) (.inl (ho.gb (by omega))) (fun w₁ y=>(aA ho hF y).x i t hi ht) xu rfl (by decide) hfr fun a' w₁ y hK'=>cont a' w₁ y hK'
end
end Go.Proofs.YtheibfffilomcabGreatDoor
