import Derived.Test.YtheibfffilomcabGreatDoorR4U
import Derived.Test.YtheibfffilomcabGreatDoorK25U
import Derived.Test.YtheibfffilomcabGreatDoorEvnU
import Derived.OpenShut
import Derived.ProofKit
import Derived.Lib.LaidTab
set_option linter.all false
set_option maxRecDepth 100000
set_option maxHeartbeats 4000000
namespace Go.Proofs.YtheibfffilomcabGreatDoor
open Go.Ren Go.Conc Go.ConcN Go.RowKit Go.Conc.Lib Go.ConcR.Gen Go.ConcN.Gen Go.Proofs.Tryz
variable {P:Program} {N:Nat} {m m':Machine} {W:World} {p q:Int} {t t':Trace} {a:Act}
open Go.ConcR (KK wgBlock WgAt stA smA rd wr Payload Aside2 DC0 ofEvent_cell)
set_option linter.unusedSimpArgs false
set_option linter.unusedVariables false
def Eb (x:PP) (Stop:(Nat→Prop)→Goroutine→World→Prop) (cs:List Frame) (i:Nat):Prop:=∀Bs a w,x.On Bs→(∀b,Bs b→b<w.heap.size)→FP x w→Kn 74 (B12 x i) a→GE prog true Bs Stop (fun _=>False) (yV a cs) w
section
variable {x:PP} {Bs:Nat→Prop} {Stop:(Nat→Prop)→Goroutine→World→Prop} {w:World} {a:Act} {cs:List Frame} {i:Nat} {t:ByteArray}
theorem KJ(hx:x.Ok)(hi:i<x.n)(next:Eb x Stop cs (i+1))(ho:x.On Bs)(hd:∀b,Bs b→b<w.heap.size)(hF:FP x w)(hK:Kn 74 ((67,.string (x.Us i))::B12 x i) a):
 GE prog true Bs Stop (fun _=>False) (G (b3.at a (.inRegion e15 [2]:: .code BF::KI)) cs) w:=by
 have hiz:(i:Int)<(x.n:Int):=by omega
 have hi0:(0:Int)≤(i:Int):=by omega
 have hn16:=hx.n16;have hw1:IntKind.i64.wrap ((i:Int)+1)=(i:Int)+1:=by rw[IntKind.wrap_i64];omega
 unfold B12 at hK;refine aR hK XX (ai rfl) (by decide) (.inr rfl) (hK.get (List.mem_cons_self)) rfl (by decide) rfl fun a w₁ y hK=>?_
 replace hF:=aA ho hF y
 replace hd:=fun b hb=>aH (hd b hb) y.size
 clear y;refine au rfl (fun _=>stepG_region_end) fun w₁ y=>?_
 replace hF:=aA ho hF y
 replace hd:=fun b hb=>aH (hd b hb) y.size
 clear y;unfold BF;refine au rfl (fun _=>stepG_seq) fun w₁ y=>?_
 replace hF:=aA ho hF y
 replace hd:=fun b hb=>aH (hd b hb) y.size
 clear y;refine au rfl (fun _=>stepG_region) fun w₁ y=>?_
 replace hF:=aA ho hF y
 replace hd:=fun b hb=>aH (hd b hb) y.size
 clear y;rw[ac6];refine aR hK XY (ai rfl) (by decide) (.inl rfl) (hK.get (List.mem_cons_self)) rfl (by decide) rfl fun a w₁ y hK=>?_
 replace hF:=aA ho hF y
 replace hd:=fun b hb=>aH (hd b hb) y.size
 clear y;refine aR hK XZ (ai rfl) (by decide) (.inl rfl) (hK.get (List.mem_cons_of_mem _ (List.mem_cons_of_mem _ (List.mem_cons_of_mem _ (List.mem_cons_of_mem _ List.mem_cons_self))))) rfl (by decide) rfl fun a w₁ y hK=>?_
 replace hF:=aA ho hF y
 replace hd:=fun b hb=>aH (hd b hb) y.size
 clear y;refine aR hK X4 (ai rfl) (by decide) (.inl rfl) (hK.get (List.mem_cons_of_mem _ (List.mem_cons_of_mem _ (List.mem_cons_of_mem _ (List.mem_cons_of_mem _ List.mem_cons_self))))) rfl (by decide) rfl fun a w₁ y hK=>?_
 replace hF:=aA ho hF y
 replace hd:=fun b hb=>aH (hd b hb) y.size
 clear y;refine bZ (v:=.pointer (some ⟨x.C,i,none⟩)) hK X5 (ai rfl) (by decide) rfl (by decide) rfl (fun w=>by have e0:=hK.at (List.mem_cons_of_mem _ List.mem_cons_self);have e1:=hK.at (List.mem_cons_self);constructor<;>(unfold execOp;simp[go_sem,e0,e1,hi,hiz,hi0])) fun a w₁ y hK=>?_
 replace hF:=aA ho hF y
 replace hd:=fun b hb=>aH (hd b hb) y.size
 clear y;refine J8 (.inr (.inl rfl)) (ad:=⟨x.C,i,none⟩) hK X6 (ai rfl) (by decide) rfl (hK.get (List.mem_cons_self)) (.inl ho.C) (fun w₁ y=>(aA ho hF y).c i hi) xu rfl (by decide) rfl fun a w₁ y hK=>?_
 replace hF:=aA ho hF y
 replace hd:=fun b hb=>aH (hd b hb) y.size
 clear y;refine bZ (v:=.bool false) hK X7 (ai rfl) (by decide) rfl (by decide) rfl (fun w=>by have e0:=hK.at (List.mem_cons_of_mem _ (List.mem_cons_of_mem _ (List.mem_cons_of_mem _ (List.mem_cons_of_mem _ List.mem_cons_self))));have e1:=hK.at (List.mem_cons_self);constructor<;>(unfold execOp;simp[go_sem,e0,e1])) fun a w₁ y hK=>?_
 replace hF:=aA ho hF y
 replace hd:=fun b hb=>aH (hd b hb) y.size
 clear y;refine au rfl (fun _=>stepG_region_end) fun w₁ y=>?_
 replace hF:=aA ho hF y
 replace hd:=fun b hb=>aH (hd b hb) y.size
 clear y;refine au rfl (fun _=>stepG_cond (t:=false) (hK.get (List.mem_cons_self))) fun w₁ y=>?_
 replace hF:=aA ho hF y
 replace hd:=fun b hb=>aH (hd b hb) y.size
 clear y;simp only[Bool.false_eq_true, ↓reduceIte];refine au rfl (fun _=>stepG_skip) fun w₁ y=>?_
 replace hF:=aA ho hF y
 replace hd:=fun b hb=>aH (hd b hb) y.size
 clear y;unfold KI;refine au rfl (fun _=>stepG_inBlock) fun w₁ y=>?_
 replace hF:=aA ho hF y
 replace hd:=fun b hb=>aH (hd b hb) y.size
 clear y;refine au rfl (fun _=>stepG_region) fun w₁ y=>?_
 replace hF:=aA ho hF y
 replace hd:=fun b hb=>aH (hd b hb) y.size
 clear y;rw[ac3];refine aR hK XJ (ai rfl) (by decide) (.inl rfl) (hK.get (List.mem_cons_of_mem _ (List.mem_cons_of_mem _ (List.mem_cons_of_mem _ (List.mem_cons_of_mem _ (List.mem_cons_of_mem _ (List.mem_cons_of_mem _ (List.mem_cons_of_mem _ (List.mem_cons_of_mem _ List.mem_cons_self))))))))) rfl (by decide) rfl fun a w₁ y hK=>?_
 replace hF:=aA ho hF y
 replace hd:=fun b hb=>aH (hd b hb) y.size
 clear y;refine bZ (v:=.int .i64 ((i+1:Nat):Int)) hK XK (ai rfl) (by decide) rfl (by decide) rfl (fun w=>by have e0:=hK.at (List.mem_cons_self);constructor<;>(unfold execOp;simp[go_sem,e0,hw1])) fun a w₁ y hK=>?_
 replace hF:=aA ho hF y
 replace hd:=fun b hb=>aH (hd b hb) y.size
 clear y
 replace hK:=hK.sub (L':=[(53,.int .i64 ((i+1:Nat):Int)),(7,.slice (some ⟨x.C,0,none⟩) x.n x.n),(5,x.v),(2,.pointer (some ⟨x.sb,0,none⟩))]) (by intro p hp;simp only[di,eU,eX]at hp ⊢;rcases hp with rfl|rfl|rfl|rfl<;>simp)
 refine aR hK XL (ai rfl) (by decide) (.inr rfl) (hK.get (List.mem_cons_self)) rfl (by decide) rfl fun a w₁ y hK=>?_
 replace hF:=aA ho hF y
 replace hd:=fun b hb=>aH (hd b hb) y.size
 clear y
 replace hK:=hK.sub (L':=[(9,.int .i64 ((i+1:Nat):Int)),(7,.slice (some ⟨x.C,0,none⟩) x.n x.n),(5,x.v),(2,.pointer (some ⟨x.sb,0,none⟩))]) (by intro p hp;simp only[di,eU,eX]at hp ⊢;rcases hp with rfl|rfl|rfl|rfl<;>simp)
 refine au rfl (fun _=>stepG_region_end) fun w₁ y=>?_
 replace hF:=aA ho hF y
 replace hd:=fun b hb=>aH (hd b hb) y.size
 clear y;refine au rfl (fun _=>stepG_inLoop) fun w₁ y=>?_
 replace hF:=aA ho hF y
 replace hd:=fun b hb=>aH (hd b hb) y.size
 clear y;exact next Bs a w₁ ho hd hF hK
theorem Ci(hS:KC Stop)(hx:x.Ok)(hi:i<x.n)(ht:x.T[i]? =some t)(next:Eb x Stop cs (i+1))(ho:x.On Bs){π:Nat→Nat}{V:World}{fb:Nat}(hH:H8 x Bs π V w)(OD:TV ((agR.fresh (nA x.p) (ny x.q)).feed (bl t)) fb V)(hK:Kn 74 ((11,.bool true)::(10,.pointer (some ⟨π fb,0,none⟩))::B12 x i) a):
 GE prog true Bs Stop (own 7 π V) (G (b3.at a (.inRegion e12 []:: .code BD::KI)) cs) w:=by
 unfold B12 at hK;refine au rfl (fun _=>stepG_region_end) fun w₁ y=>?_
 replace hH:=hH.rely ho y
 clear y;unfold BD;refine au rfl (fun _=>stepG_seq) fun w₁ y=>?_
 replace hH:=hH.rely ho y
 clear y;refine au rfl (fun _=>stepG_seq) fun w₁ y=>?_
 replace hH:=hH.rely ho y
 clear y;refine au rfl (fun _=>stepG_region) fun w₁ y=>?_
 replace hH:=hH.rely ho y
 clear y;rw[ac4];refine aR hK XT (ai rfl) (by decide) (.inl rfl) (hK.get (List.mem_cons_self)) rfl (by decide) rfl fun a w₁ y hK=>?_
 replace hH:=hH.rely ho y
 clear y;refine bZ (v:=.bool false) hK XU (ai rfl) (by decide) rfl (by decide) rfl (fun w=>by have e0:=hK.at (List.mem_cons_self);constructor<;>(unfold execOp;simp[go_sem,e0])) fun a w₁ y hK=>?_
 replace hH:=hH.rely ho y
 clear y;refine au rfl (fun _=>stepG_region_end) fun w₁ y=>?_
 replace hH:=hH.rely ho y
 clear y;refine au rfl (fun _=>stepG_cond (t:=false) (hK.get (List.mem_cons_self))) fun w₁ y=>?_
 replace hH:=hH.rely ho y
 clear y;simp only[Bool.false_eq_true, ↓reduceIte];refine au rfl (fun _=>stepG_skip) fun w₁ y=>?_
 replace hH:=hH.rely ho y
 clear y;unfold BE;refine au rfl (fun _=>stepG_seq) fun w₁ y=>?_
 replace hH:=hH.rely ho y
 clear y;refine au rfl (fun _=>stepG_region) fun w₁ y=>?_
 replace hH:=hH.rely ho y
 clear y;rw[ac5];refine aR hK XV (ai rfl) (by decide) (.inl rfl) (hK.get (List.mem_cons_of_mem _ (List.mem_cons_of_mem _ (List.mem_cons_of_mem _ List.mem_cons_self)))) rfl (by decide) rfl fun a w₁ y hK=>?_
 replace hH:=hH.rely ho y
 clear y;have e66:=(hK.get (List.mem_cons_self));refine rQ Lj ho.b7 (Ex ho) (Post:=fun v _=>v= .string (x.Us i)) (fun _ _ _ _ y=>y) (f:=9) (jW:=#[.pointer (some ⟨fb,0,none⟩)]) rfl SK OD.2.1 (fun τ eY=>⟨(OD.2.2 τ eY).1,by simp[(OD.2.2 τ eY).2]⟩) (TM (hx.U i t hi ht) OD.1) hH.hr XW (ai rfl) (by decide) rfl func9 nm9 rfl (fun w₁ ρ e=>?_) hH.d hH.f ?_
 ·simp[e66,mv,bW,e.old fb OD.1.lt]
 ·intro zU V' v' w' hr' _ hv hF' hd';have hv':v'= .string (x.Us i):=hv.1;subst hv';simp only[mv];refine gef hS (KJ hx hi next (ho.mono fun b hb=>.inl hb) (fun b hb=>hb.elim (fun y=>(hd' b y).1) (jv hr')) hF' ?_);refine(hK.put (d:=67) (by decide) rfl _).sub fun y hy=>?_;simp only[B12,di,eU,eX]at hy ⊢;rcases hy with rfl|rfl|rfl|rfl|rfl<;>simp
theorem PR{rest:List Nat}(hrest:FX.contains rest=true)(hS:KC Stop)(hx:x.Ok)(hi:i<x.n)(ht:x.T[i]? =some t)(next:Eb x Stop cs (i+1))(ho:x.On Bs){π:Nat→Nat}{V:World}{fb:Nat}(hH:H8 x Bs π V w)(OD:TV ((agR.fresh (nA x.p) (ny x.q)).feed (bl t)) fb V)(hK:Kn 74 ((61,.tuple #[.pointer (some ⟨π fb,0,none⟩),.bool true])::B12 x i) a):
 GE prog true Bs Stop (own 7 π V) (G (b3.at a (.inRegion e12 rest:: .code BD::KI)) cs) w:=by
 have hm:rest=[7,8,9,10,11]∨rest=[7,8,10,9,11]∨rest=[7,9,8,10,11]:=by simpa[FX]using hrest
 unfold B12 at hK;rcases hm with rfl|rfl|rfl
 ·refine aR hK Oe (ai rfl) (by decide) (.inl rfl) (hK.get (List.mem_cons_self)) rfl (by decide) rfl fun a w₁ y hK=>?_
  replace hH:=hH.rely ho y
  clear y;refine bZ (v:=.pointer (some ⟨π fb,0,none⟩)) hK Og (ai rfl) (by decide) rfl (by decide) rfl (fun w=>by have e0:=hK.at (List.mem_cons_self);constructor<;>(unfold execOp;simp[go_sem,e0])) fun a w₁ y hK=>?_
  replace hH:=hH.rely ho y
  clear y;refine bZ (v:=.bool true) hK Oh (ai rfl) (by decide) rfl (by decide) rfl (fun w=>by have e0:=hK.at (List.mem_cons_of_mem _ List.mem_cons_self);constructor<;>(unfold execOp;simp[go_sem,e0])) fun a w₁ y hK=>?_
  replace hH:=hH.rely ho y
  clear y;refine aR hK G5 (ai rfl) (by decide) (.inr rfl) (hK.get (List.mem_cons_of_mem _ List.mem_cons_self)) rfl (by decide) rfl fun a w₁ y hK=>?_
  replace hH:=hH.rely ho y
  clear y;refine aR hK G6 (ai rfl) (by decide) (.inr rfl) (hK.get (List.mem_cons_of_mem _ List.mem_cons_self)) rfl (by decide) rfl fun a w₁ y hK=>?_
  replace hH:=hH.rely ho y
  clear y
  replace hK:=hK.sub (L':=[(11,.bool true),(10,.pointer (some ⟨π fb,0,none⟩)),(9,.int .i64 ((i:Nat):Int)),(7,.slice (some ⟨x.C,0,none⟩) x.n x.n),(5,x.v),(2,.pointer (some ⟨x.sb,0,none⟩))]) (by intro p hp;simp only[di,eU,eX]at hp ⊢;rcases hp with rfl|rfl|rfl|rfl|rfl|rfl<;>simp)
  exact Ci hS hx hi ht next ho hH OD hK
 ·refine aR hK Oe (ai rfl) (by decide) (.inl rfl) (hK.get (List.mem_cons_self)) rfl (by decide) rfl fun a w₁ y hK=>?_
  replace hH:=hH.rely ho y
  clear y;refine bZ (v:=.pointer (some ⟨π fb,0,none⟩)) hK Og (ai rfl) (by decide) rfl (by decide) rfl (fun w=>by have e0:=hK.at (List.mem_cons_self);constructor<;>(unfold execOp;simp[go_sem,e0])) fun a w₁ y hK=>?_
  replace hH:=hH.rely ho y
  clear y;refine aR hK G5 (ai rfl) (by decide) (.inr rfl) (hK.get (List.mem_cons_self)) rfl (by decide) rfl fun a w₁ y hK=>?_
  replace hH:=hH.rely ho y
  clear y;refine bZ (v:=.bool true) hK Oh (ai rfl) (by decide) rfl (by decide) rfl (fun w=>by have e0:=hK.at (List.mem_cons_of_mem _ (List.mem_cons_of_mem _ List.mem_cons_self));constructor<;>(unfold execOp;simp[go_sem,e0])) fun a w₁ y hK=>?_
  replace hH:=hH.rely ho y
  clear y;refine aR hK G6 (ai rfl) (by decide) (.inr rfl) (hK.get (List.mem_cons_self)) rfl (by decide) rfl fun a w₁ y hK=>?_
  replace hH:=hH.rely ho y
  clear y
  replace hK:=hK.sub (L':=[(11,.bool true),(10,.pointer (some ⟨π fb,0,none⟩)),(9,.int .i64 ((i:Nat):Int)),(7,.slice (some ⟨x.C,0,none⟩) x.n x.n),(5,x.v),(2,.pointer (some ⟨x.sb,0,none⟩))]) (by intro p hp;simp only[di,eU,eX]at hp ⊢;rcases hp with rfl|rfl|rfl|rfl|rfl|rfl<;>simp)
  exact Ci hS hx hi ht next ho hH OD hK
 ·refine aR hK Oe (ai rfl) (by decide) (.inl rfl) (hK.get (List.mem_cons_self)) rfl (by decide) rfl fun a w₁ y hK=>?_
  replace hH:=hH.rely ho y
  clear y;refine bZ (v:=.bool true) hK Oh (ai rfl) (by decide) rfl (by decide) rfl (fun w=>by have e0:=hK.at (List.mem_cons_self);constructor<;>(unfold execOp;simp[go_sem,e0])) fun a w₁ y hK=>?_
  replace hH:=hH.rely ho y
  clear y;refine bZ (v:=.pointer (some ⟨π fb,0,none⟩)) hK Og (ai rfl) (by decide) rfl (by decide) rfl (fun w=>by have e0:=hK.at (List.mem_cons_of_mem _ List.mem_cons_self);constructor<;>(unfold execOp;simp[go_sem,e0])) fun a w₁ y hK=>?_
  replace hH:=hH.rely ho y
  clear y;refine aR hK G5 (ai rfl) (by decide) (.inr rfl) (hK.get (List.mem_cons_self)) rfl (by decide) rfl fun a w₁ y hK=>?_
  replace hH:=hH.rely ho y
  clear y;refine aR hK G6 (ai rfl) (by decide) (.inr rfl) (hK.get (List.mem_cons_of_mem _ (List.mem_cons_of_mem _ List.mem_cons_self))) rfl (by decide) rfl fun a w₁ y hK=>?_
  replace hH:=hH.rely ho y
  clear y
  replace hK:=hK.sub (L':=[(11,.bool true),(10,.pointer (some ⟨π fb,0,none⟩)),(9,.int .i64 ((i:Nat):Int)),(7,.slice (some ⟨x.C,0,none⟩) x.n x.n),(5,x.v),(2,.pointer (some ⟨x.sb,0,none⟩))]) (by intro p hp;simp only[di,eU,eX]at hp ⊢;rcases hp with rfl|rfl|rfl|rfl|rfl|rfl<;>simp)
  exact Ci hS hx hi ht next ho hH OD hK
theorem Ze(hS:KC Stop)(hx:x.Ok)(hi:i<x.n)(ht:x.T[i]? =some t)(next:Eb x Stop cs (i+1))(ho:x.On Bs)(hd:∀b,Bs b→b<w.heap.size)(hF:FP x w)(hK:Kn 74 (B12 x i) a):
 GE prog true Bs Stop (fun _=>False) (yV a cs) w:=by
 have hiz:(i:Int)<(x.n:Int):=by omega
 obtain⟨ao,hv,_⟩:=hx.v;unfold B12 at hK;unfold yV;refine au rfl (fun _=>JK) fun w₁ y=>?_
 replace hF:=aA ho hF y
 replace hd:=fun b hb=>aH (hd b hb) y.size
 clear y;unfold LC1;refine au rfl (fun _=>stepG_seq) fun w₁ y=>?_
 replace hF:=aA ho hF y
 replace hd:=fun b hb=>aH (hd b hb) y.size
 clear y;refine au rfl (fun _=>stepG_region) fun w₁ y=>?_
 replace hF:=aA ho hF y
 replace hd:=fun b hb=>aH (hd b hb) y.size
 clear y;rw[ZQ];refine aR hK Sr (ai rfl) (by decide) (.inl rfl) (hK.get (List.mem_cons_self)) rfl (by decide) rfl fun a w₁ y hK=>?_
 replace hF:=aA ho hF y
 replace hd:=fun b hb=>aH (hd b hb) y.size
 clear y;refine aR hK Su (ai rfl) (by decide) (.inl rfl) (hK.get (List.mem_cons_of_mem _ (List.mem_cons_of_mem _ (List.mem_cons_of_mem _ List.mem_cons_self)))) rfl (by decide) rfl fun a w₁ y hK=>?_
 replace hF:=aA ho hF y
 replace hd:=fun b hb=>aH (hd b hb) y.size
 clear y;refine bZ (v:=.int .i64 x.n) hK Sv (ai rfl) (by decide) rfl (by decide) rfl (fun w=>by have e0:=hK.at (List.mem_cons_self);constructor<;>(unfold execOp;simp[go_sem,e0,hv])) fun a w₁ y hK=>?_
 replace hF:=aA ho hF y
 replace hd:=fun b hb=>aH (hd b hb) y.size
 clear y;refine bZ (v:=.bool true) hK Sw (ai rfl) (by decide) rfl (by decide) rfl (fun w=>by have e0:=hK.at (List.mem_cons_of_mem _ (List.mem_cons_of_mem _ List.mem_cons_self));have e1:=hK.at (List.mem_cons_self);constructor<;>(unfold execOp;simp[go_sem,e0,e1,hi,hiz])) fun a w₁ y hK=>?_
 replace hF:=aA ho hF y
 replace hd:=fun b hb=>aH (hd b hb) y.size
 clear y;refine au rfl (fun _=>stepG_region_end) fun w₁ y=>?_
 replace hF:=aA ho hF y
 replace hd:=fun b hb=>aH (hd b hb) y.size
 clear y;refine au rfl (fun _=>stepG_cond (t:=true) (hK.get (List.mem_cons_self))) fun w₁ y=>?_
 replace hF:=aA ho hF y
 replace hd:=fun b hb=>aH (hd b hb) y.size
 clear y;simp only[↓reduceIte];refine au rfl (fun _=>stepG_skip) fun w₁ y=>?_
 replace hF:=aA ho hF y
 replace hd:=fun b hb=>aH (hd b hb) y.size
 clear y;unfold LC2;refine au rfl (fun _=>stepG_seq) fun w₁ y=>?_
 replace hF:=aA ho hF y
 replace hd:=fun b hb=>aH (hd b hb) y.size
 clear y;refine au rfl (fun _=>stepG_block) fun w₁ y=>?_
 replace hF:=aA ho hF y
 replace hd:=fun b hb=>aH (hd b hb) y.size
 clear y;unfold BC;refine au rfl (fun _=>stepG_seq) fun w₁ y=>?_
 replace hF:=aA ho hF y
 replace hd:=fun b hb=>aH (hd b hb) y.size
 clear y
 replace hK:=hK.sub (L':=[(9,.int .i64 ((i:Nat):Int)),(7,.slice (some ⟨x.C,0,none⟩) x.n x.n),(5,x.v),(2,.pointer (some ⟨x.sb,0,none⟩))]) (by intro p hp;simp only[di,eU,eX]at hp ⊢;rcases hp with rfl|rfl|rfl|rfl<;>simp)
 refine GE.draw rfl fun w₁ y=>⟨_,stepG_region_draw,?_⟩;have hm:=vT mixed e12 (w₁.tape w₁.drawn (.order b3.fn 12));refine ZM (kk:=.code BD::KI) hx hi ht (fun π V fb a' w' rest h1 h2 h3 h4=>PR h1 hS hx hi ht next ho h2 h3 h4) ho _ (fun _=>false) a _ (List.all_eq_true.1 Xz _ hm) (fun b hb=>aH (hd b hb) y.size) (Ex ho _ _ (fun b hb=>y.keep b (.inl hb)) y.size y.os hF) (hK.sub fun z hz=>by simpa[L12,B12]using hz)
def JN (cs:List Frame) (_:Nat→Prop) (g:Goroutine) (_:World):Prop:=∃a todo,g=G {b3.at a todo with mode:=.returning} cs∧Kn 74 [(4,.bool true)] a
theorem Yb(hx:x.Ok)(hi:i=x.n)(ho:x.On Bs)(hd:∀b,Bs b→b<w.heap.size)(hF:FP x w)(hK:Kn 74 (B12 x i) a):
 GE prog true Bs (JN cs) (fun _=>False) (yV a cs) w:=by
 have hiz:¬((i:Int)<(x.n:Int)):=by omega
 obtain⟨ao,hv,_⟩:=hx.v;unfold B12 at hK;unfold yV;refine au rfl (fun _=>JK) fun w₁ y=>?_
 replace hF:=aA ho hF y
 replace hd:=fun b hb=>aH (hd b hb) y.size
 clear y;unfold LC1;refine au rfl (fun _=>stepG_seq) fun w₁ y=>?_
 replace hF:=aA ho hF y
 replace hd:=fun b hb=>aH (hd b hb) y.size
 clear y;refine au rfl (fun _=>stepG_region) fun w₁ y=>?_
 replace hF:=aA ho hF y
 replace hd:=fun b hb=>aH (hd b hb) y.size
 clear y;rw[ZQ];refine aR hK Sr (ai rfl) (by decide) (.inl rfl) (hK.get (List.mem_cons_self)) rfl (by decide) rfl fun a w₁ y hK=>?_
 replace hF:=aA ho hF y
 replace hd:=fun b hb=>aH (hd b hb) y.size
 clear y;refine aR hK Su (ai rfl) (by decide) (.inl rfl) (hK.get (List.mem_cons_of_mem _ (List.mem_cons_of_mem _ (List.mem_cons_of_mem _ List.mem_cons_self)))) rfl (by decide) rfl fun a w₁ y hK=>?_
 replace hF:=aA ho hF y
 replace hd:=fun b hb=>aH (hd b hb) y.size
 clear y;refine bZ (v:=.int .i64 x.n) hK Sv (ai rfl) (by decide) rfl (by decide) rfl (fun w=>by have e0:=hK.at (List.mem_cons_self);constructor<;>(unfold execOp;simp[go_sem,e0,hv])) fun a w₁ y hK=>?_
 replace hF:=aA ho hF y
 replace hd:=fun b hb=>aH (hd b hb) y.size
 clear y;refine bZ (v:=.bool false) hK Sw (ai rfl) (by decide) rfl (by decide) rfl (fun w=>by have e0:=hK.at (List.mem_cons_of_mem _ (List.mem_cons_of_mem _ List.mem_cons_self));have e1:=hK.at (List.mem_cons_self);constructor<;>(unfold execOp;simp[go_sem,e0,e1,hi,hiz])) fun a w₁ y hK=>?_
 replace hF:=aA ho hF y
 replace hd:=fun b hb=>aH (hd b hb) y.size
 clear y;refine au rfl (fun _=>stepG_region_end) fun w₁ y=>?_
 replace hF:=aA ho hF y
 replace hd:=fun b hb=>aH (hd b hb) y.size
 clear y;refine au rfl (fun _=>stepG_cond (t:=false) (hK.get (List.mem_cons_self))) fun w₁ y=>?_
 replace hF:=aA ho hF y
 replace hd:=fun b hb=>aH (hd b hb) y.size
 clear y;simp only[Bool.false_eq_true, ↓reduceIte];refine au rfl (fun _=>stepG_exit rfl) fun w₁ y=>?_
 replace hF:=aA ho hF y
 replace hd:=fun b hb=>aH (hd b hb) y.size
 clear y;refine au rfl (fun _=>stepG_seq) fun w₁ y=>?_
 replace hF:=aA ho hF y
 replace hd:=fun b hb=>aH (hd b hb) y.size
 clear y;refine au rfl (fun _=>stepG_region) fun w₁ y=>?_
 replace hF:=aA ho hF y
 replace hd:=fun b hb=>aH (hd b hb) y.size
 clear y;rw[ac7];refine aR (v:=.bool true) hK X8 (ai rfl) (by decide) (.inr rfl) rfl rfl (by decide) rfl fun a w₁ y hK=>?_
 replace hF:=aA ho hF y
 replace hd:=fun b hb=>aH (hd b hb) y.size
 clear y;refine au rfl (fun _=>stepG_region_end) fun w₁ y=>?_
 replace hF:=aA ho hF y
 replace hd:=fun b hb=>aH (hd b hb) y.size
 clear y;refine au rfl (fun _=>stepG_ret') fun w₁ y=>?_
 replace hF:=aA ho hF y
 replace hd:=fun b hb=>aH (hd b hb) y.size
 clear y
 replace hK:=hK.sub (L':=[(4,.bool true)]) (by intro p hp;simp only[di,eU,eX]at hp ⊢;rcases hp with rfl<;>simp)
 exact GE.stop fun w₂ y=>⟨a,[.code .ret],rfl,hK⟩
theorem Zx(hx:x.Ok):∀r i,i+r=x.n→Eb x (JN cs) cs i:=by
 intro r;induction r with
 |zero=>intro i hi Bs a w ho hd hF hK;exact Yb hx (by omega) ho hd hF hK
 |succ r ih=>
  intro i hi Bs a w ho hd hF hK;have hlt:i<x.T.length:=by have:=hx.nT;omega
  exact Ze (fun _ _ _ _ h=>h) hx (by omega) (gK hlt) (ih (i+1) (by omega)) ho hd hF hK
theorem Ot{T:Array Value}{rest:List Nat}(hx:x.Ok)(ho:x.On Bs)(hd:∀b,Bs b→b<w.heap.size)(hF:FP x w)(hT:V9 x.db T)(hrest:Mr.contains rest=true)(hK:Kn 74 [(5,x.v),(2,.pointer (some ⟨x.sb,0,none⟩))] a):
 GE prog true Bs (JN cs) (fun _=>False) (LV T (b3.at a (.inRegion e6 (5::rest)::[.code RB])::cs)) w:=by
 refine MO ho hT hF fun w' y=>?_;refine RI hrest hx ho (fun b hb=>aH (hd b hb) y.size) (aA ho hF y) (hK.put (d:=36) (by decide) rfl _) fun a' w'' h1 h2 h3=>?_;exact Zx hx x.n 0 (lG _) Bs a' w'' ho h3 h2 h1
end
open Go.ConcR (KK wgBlock WgAt stA smA rd wr Payload Aside2 DC0 ofEvent_cell)
set_option linter.unusedSimpArgs false
set_option linter.unusedVariables false
theorem R5(hp: -9223372036854775808≤p∧p≤9223372036854775807)(hq: -9223372036854775808≤q∧q≤9223372036854775807)(hg:fD W)(ht:iE W)(t:ByteArray)(hs:t.size≤281474976710656):∃U:ByteArray,bl U=Gi (nA p) (ny q) t:=by obtain⟨e,V,_,⟨v,_,fb,_,L,h1,_,_⟩,_⟩:=Oc (t:=t) hp hq hs (zL hg ht) (mK hg) W.tape 0 [];have hok:((agR.fresh (nA p) (ny q)).feed (bl t)).Ok:=(agR.Ok.fresh (mY p) (mX q)).feed _ (nJ t);obtain⟨e,V',_,⟨⟨U,_,hU⟩,_⟩,_⟩:=yN fb L _ hok.t (vK (nA p) (ny q) (mY p) (mX q) _ (nJ t)) V h1 [];exact⟨U,hU⟩
theorem Ry(h:runNT P N m t=(.next m',t')):runN P N m= .next m':=by rw[←runNT_fst _ _ _ t,h]
theorem L9{K:Nat}{t'':Trace}{o:Outcome}{w':World}(h:runNT P N m t=(.next m',t'))(hk:runNT P K m' t'=(.ended o w',t'')):runNT P (N+K) m t=(.ended o w',t''):=by
 induction N generalizing m t with
 |zero=>simp only[runNT,Prod.mk.injEq,Stepped.next.injEq]at h;obtain⟨rfl,rfl⟩:=h;rw[lG];exact hk
 |succ N ih=>
  rw[Nat.succ_add,runNT];rw[runNT]at h;cases hs:stepT P m with
  |mk s ops=>
   rw[hs]at h;cases s with
   |next m1=>exact ih h
   |_=>simp at h
theorem Rz{K:Nat}{m'':Machine}(h:runN P N m= .next m')(hk:runN P K m'= .next m''):runN P (N+K) m= .next m'':=by
 induction N generalizing m with
 |zero=>simp only[runN,Stepped.next.injEq]at h;subst h;rw[lG];exact hk
 |succ N ih=>
  rw[Nat.succ_add,runN];rw[runN]at h;cases hs:Go.step P m with
  |next m1=>rw[hs]at h;exact ih h
  |_=>rw[hs]at h;simp at h
structure NL (W:World) (v:Value) (w:World):Prop where
 v:v= .bool true
 keep:∀b,b<W.heap.size→w.heap[b]? =W.heap[b]?
 size:W.heap.size≤w.heap.size
 os:w.os=W.os
 o:w.output=W.output
 tape:w.tape=W.tape
theorem abW{todo:List Item}{w:World}(hK:Kn 74 [(4,.bool true)] a):∃es,stepG prog true (G {b3.at a todo with mode:=.returning} []) w= .ended (.done (.bool true)) w es∧es= #[]:=by have e:=hK.at List.mem_cons_self;have hf:prog.funcs[b3.fn]? =some f3:=func3;have hr:f3.results= #[.tmp 4]:=rfl;refine⟨#[],?_,rfl⟩;simp[G,stepG,unwind,doReturn,Frame.at,hK.df,hf,b3,base,results,hr,e,seen,GStep.after]
theorem Jg{ao:Option Addr}{cap:Nat}{T:List ByteArray}(h:In3 W p q ao cap T)(hK:Kn 74 [(0,.agg #[.int .i64 p,.int .i64 q]),(1,.slice ao T.length cap)] a):
 ∃N last o w' t',runNT prog (N+1) (solo (G (b3.at a [.code lI]) []) W) #[]=(.ended o w',t')∧runN prog N (solo (G (b3.at a [.code lI]) []) W)= .next last∧Go.step prog last= .ended o w'∧Conc.Good prog (NL W) last o w' t':=by
 have ex:∀k:Nat,∃U:ByteArray,∀t,T[k]? =some t→bl U=Gi (nA p) (ny q) t:=fun k=>by
  cases hk:T[k]? with
  |none=>exact⟨⟨#[]⟩,fun t ht=>by cases ht⟩
  |some t=>obtain⟨U,hU⟩:=R5 h.p h.q h.g h.t t (h.s t (fu hk));exact⟨U,fun t' ht=>by cases ht;exact hU⟩
 obtain⟨Us,hUs⟩:=Classical.axiomOfChoice ex;obtain⟨N1,m1,t1,e1,gs,w,sl,a0,qs,Tm,db,C,Wg,sb,gb,cap',v,a1,rest,rfl,g0,hL,hP,UR,hrest,hK1,hgo,Ri,hres,Zf,hv,htx,⟨n1,n2,n3,n4,n5⟩,hWg,acg,kp,os1,Vn,tp1⟩:=RZ h hK (fun k t _ ht=>hUs k t ht);obtain⟨N2,gs2,sl2,t2,qs2,a2,w2,e2,g2,ha2,k2,hL2,hP2⟩:=BT.runs (vE:=fun _=>True) (BT.uJ hgo) (fun g w x=>by rw[x];rfl) gs sl t1 qs g0 hL hP;subst ha2;have eh:∀b,w2.heap[b]? =w.heap[b]? :=fun b=>k2.keep b trivial;let x:PP:={db:=db,C:=C,sb:=sb,gb:=gb,n:=min T.length 16,cap:=cap',p:=p,q:=q,v:=v,T:=T,Us:=Us};have hx:x.Ok:=⟨by show min T.length 16≤16;omega,by show min T.length 16≤T.length;omega,h.p,h.q,hv,h.s,fun k t _ ht=>hUs k t ht⟩;have lt:∀{b:Nat} {o:Obj},w.heap[b]? =some o→b<w2.heap.size:=fun h=>aH (kP.1 h).1 k2.size;have ltc:∀{b i:Nat} {u:Value},w.cell? ⟨b,i,none⟩=some u→b<w2.heap.size:=fun h=>aH (DV _ _ h) k2.size;have hC:C<w2.heap.size:=aH n5 k2.size
 have ho:x.On (fun b=>b<w2.heap.size∧b≠Wg):=⟨fun b hb=>⟨by have:=h.h7;have:=k2.size;omega,by have:=h.h7;omega⟩,⟨lt Ri,n1⟩,⟨hC,n2⟩,⟨lt Zf,n3⟩,fun h0=>⟨by
  obtain⟨t,ht⟩:∃t,T[0]? =some t:=⟨_,gK (show 0<T.length by have h0':0<min T.length 16:=h0;omega)⟩
  exact ltc (htx 0 t h0 ht),n4 h0⟩⟩
 have hG:fD w2:=fun b hb=>by obtain⟨o,ho',y⟩:=h.g b hb;exact⟨o,((eh b).trans (kp b (by have:=h.h7;omega))).trans ho',y⟩
 have hT2:iE w2:=h.t.kept fun k hk=>(eh k).trans (kp k (by have:=h.h7;omega));have hF:FP x w2:=⟨(cell_of_block (eh db) 0).trans (iN Ri).1,fun i hi=>(cell_of_block (eh C) i).trans (hres i hi),(eh sb).trans Zf,fun i t hi ht=>(cell_of_block (eh gb) i).trans (htx i t hi ht),hG,hT2⟩;obtain⟨r3,h3⟩:=Ot (cs:=[]) hx ho (fun b hb=>hb.1) hF UR hrest hK1;have h3':=BT.ZJ (Wg:=Wg) (vE:=fun b=>b<w2.heap.size) (Stop:=fun g w=>JN [] (fun _=>False) g w) (fun y=>y.2 rfl) (fun S g w y _=>y) h3 id (aH acg k2.size) (fun b hb=>⟨hb,id⟩);obtain⟨N3,gs3,sl3,t3,qs3,a3,w3,e3,g3,⟨a4,todo,rfl,hK4⟩,k3,hL3,hP3⟩:=BT.runs h3' (fun g w y=>by obtain⟨_,_,rfl,_⟩:=y;rfl) gs2 sl2 t2 qs2 g2 hL2 hP2;have hpost:∀d,NL W (.bool true) (w3.at d):=fun d=>⟨rfl,fun b hb=>(k3.keep b (by have:=k2.size;omega)).trans ((eh b).trans (kp b hb)),by have:=k2.size;have:=k3.size;show W.heap.size≤w3.heap.size;omega,k3.os.trans (k2.os.trans os1),k3.o.trans (k2.o.trans Vn),k3.tape.trans (k2.tape.trans tp1)⟩;obtain⟨N4,last,o,w4,t4,e4,e5,e6,hgood⟩:=EM (P:=prog) (Wg:=Wg) (Post:=NL W) (w:=w3) rfl (fun d=>by obtain⟨es,h1,h2⟩:=abW (todo:=todo) (w:=w3.at d) hK4;exact⟨es,h1,fun e he=>by rw[h2]at he;simp at he⟩) hpost _ gs3 sl3 t3 qs3 w3.drawn (bE _) g3 hL3 hP3;have hE:=oU e1 (oU e2 e3);refine⟨N1+(N2+N3)+N4,last,o,w4,t4,?_,Rz (Ry hE) e5,e6,hgood⟩;rw[Nat.add_assoc];exact L9 hE e4
theorem g1:prog.globalNamed "slate/chars.leads" =some 0:=by kernel_rfl
theorem g1T:(prog.globals[0]?).map (·.type)=some 190:=by kernel_rfl
theorem cells3:prog.cellsOf 3=1:=by kernel_rfl
theorem cells5:prog.cellsOf 5=1:=by kernel_rfl
theorem JV:prog.cellsOf 189=6:=by kernel_rfl
theorem QT:prog.cellsOf 190=48:=by kernel_rfl
theorem gU(m:Nat):∀(rows:List (List Value)) (cs:List Value),cs.length=rows.length*m→(∀i r,rows[i]? =some r→(cs.drop (i*m)).take m=r)→cs=rows.flatten
 | [],cs,hl,_=>by
   have:cs.length=0:=by simpa using hl
   simp[Jm this]
 |r::rs,cs,hl,h=>by
  have h0:=h 0 r rfl;simp only[Nat.zero_mul,List.drop_zero]at h0;have hl':cs.length=rs.length*m+m:=by rw[hl,fB,Nat.add_mul,Nat.one_mul]
  have ih:=gU m rs (cs.drop m) (by rw[wR];omega) (fun i r' hr=>by
   have:=h (i+1) r' (by simpa using hr);rw[List.drop_drop,show m+i*m=(i+1)*m by rw[Nat.add_mul,Nat.one_mul,Nat.add_comm]]
   exact this)
  rw[List.flatten_cons, ←ih, ←h0,List.take_append_drop]
section
variable {H:Type} {enc:TypeId × Value→H} {w:World} {base:Nat} {sp:Nat→Bool} {held:Bool} {fuel:Nat}
theorem gG{t:TypeId}{k:IntKind}{n:Int}{xs:List (DataW H × List MemPlace)}{i:Nat}{cs:List Value}(ht:prog.underlying t=some (.int k))(hx:(xs.map (·.1))[i]? =some (.lit (.int k n)))(h:DataW.trod enc prog w base sp held fuel t cs=xs[i]?):cs=[.int k n]:=by
 rw[sH]at hx;cases hxi:xs[i]? with
 |none=>rw[hxi]at hx;simp at hx
 |some x=>rw[hxi]at hx h;obtain⟨z,hc,rfl,_⟩:=DataW.trod_int ht h;simp at hx;rw[hc,hx]
theorem Hz{cs:List Value}{p:List MemPlace}{a b c d e f:Int}(h:DataW.trod enc prog w base sp held fuel 189 cs=some (.agg [.lit (.int .u8 a),.lit (.int .u8 b),.lit (.int .u8 c),.lit (.int .i64 d),.lit (.int .u8 e),.lit (.int .u8 f)],p)):
 cs=[.int .u8 a,.int .u8 b,.int .u8 c,.int .i64 d,.int .u8 e,.int .u8 f]:=by
 obtain⟨xs,n,rfl,hx,hl,hxl,hf⟩:=DataW.trod_struct underlying189 h;have hx1:xs.map (·.1)=[.lit (.int .u8 a),.lit (.int .u8 b),.lit (.int .u8 c),.lit (.int .i64 d),.lit (.int .u8 e),.lit (.int .u8 f)]:=by have:=congrArg Prod.fst hx;simpa using this.symm
 rw[JV]at hl;have f0:(cs.drop 0).take (prog.cellsOf 5)=[.int .u8 a]:=gG underlying5 (by rw[hx1];rfl) (hf 0 _ rfl);rw[cells5]at f0;have f1:(cs.drop 1).take (prog.cellsOf 5)=[.int .u8 b]:=gG underlying5 (by rw[hx1];rfl) (hf 1 _ rfl);rw[cells5]at f1;have f2:(cs.drop 2).take (prog.cellsOf 5)=[.int .u8 c]:=gG underlying5 (by rw[hx1];rfl) (hf 2 _ rfl);rw[cells5]at f2;have f3:(cs.drop 3).take (prog.cellsOf 3)=[.int .i64 d]:=gG underlying3 (by rw[hx1];rfl) (hf 3 _ rfl);rw[cells3]at f3;have f4:(cs.drop 4).take (prog.cellsOf 5)=[.int .u8 e]:=gG underlying5 (by rw[hx1];rfl) (hf 4 _ rfl);rw[cells5]at f4;have f5:(cs.drop 5).take (prog.cellsOf 5)=[.int .u8 f]:=gG underlying5 (by rw[hx1];rfl) (hf 5 _ rfl);rw[cells5]at f5
 have:=gU 1 [[.int .u8 a],[.int .u8 b],[.int .u8 c],[.int .i64 d],[.int .u8 e],[.int .u8 f]] cs (by simpa using hl) (fun i r hr=>by
  match i,hr with
  | 0,hr=>simp at hr;subst hr;exact f0
  | 1,hr=>simp at hr;subst hr;exact f1
  | 2,hr=>simp at hr;subst hr;exact f2
  | 3,hr=>simp at hr;subst hr;exact f3
  | 4,hr=>simp at hr;subst hr;exact f4
  | 5,hr=>simp at hr;subst hr;exact f5
  |n+6,hr=>simp at hr)
 simpa using this
theorem jG{xs:List (DataW H × List MemPlace)}{i:Nat}{cs:List Value}{a b c d e f:Int}(hx:(xs.map (·.1))[i]? =some (.agg [.lit (.int .u8 a),.lit (.int .u8 b),.lit (.int .u8 c),.lit (.int .i64 d),.lit (.int .u8 e),.lit (.int .u8 f)]))(h:DataW.trod enc prog w base sp held fuel 189 cs=xs[i]?):cs=[.int .u8 a,.int .u8 b,.int .u8 c,.int .i64 d,.int .u8 e,.int .u8 f]:=by
 rw[sH]at hx;cases hxi:xs[i]? with
 |none=>rw[hxi]at hx;simp at hx
 |some x=>rw[hxi]at hx h;simp only[Option.map_some,sJ]at hx;exact Hz (p:=x.2) (by rw[h, ←hx])
theorem EL{cs:List Value}{p:List MemPlace}(h:DataW.trod enc prog w base sp held fuel 190 cs=some (Rows.laid_slate_chars_leads,p)):cs=eZ.toList:=by
 obtain⟨xs,n,rfl,hx,hl,hxl,hf⟩:=DataW.trod_array underlying190 h;have hx0:DataW.agg (xs.map (·.1))=Rows.laid_slate_chars_leads:=(congrArg Prod.fst hx).symm;unfold Rows.laid_slate_chars_leads at hx0;have hx1:=DataW.agg.inj hx0;rw[QT]at hl;simp only[JV]at hf;have f0:=jG (by rw[hx1];rfl) (hf 0 (by omega));have f1:=jG (by rw[hx1];rfl) (hf 1 (by omega));have f2:=jG (by rw[hx1];rfl) (hf 2 (by omega));have f3:=jG (by rw[hx1];rfl) (hf 3 (by omega));have f4:=jG (by rw[hx1];rfl) (hf 4 (by omega));have f5:=jG (by rw[hx1];rfl) (hf 5 (by omega));have f6:=jG (by rw[hx1];rfl) (hf 6 (by omega));have f7:=jG (by rw[hx1];rfl) (hf 7 (by omega))
 have:=gU 6 [[.int .u8 194,.int .u8 223,.int .u8 31,.int .i64 1,.int .u8 128,.int .u8 191],[.int .u8 224,.int .u8 224,.int .u8 15,.int .i64 2,.int .u8 160,.int .u8 191],[.int .u8 225,.int .u8 236,.int .u8 15,.int .i64 2,.int .u8 128,.int .u8 191],[.int .u8 237,.int .u8 237,.int .u8 15,.int .i64 2,.int .u8 128,.int .u8 159],[.int .u8 238,.int .u8 239,.int .u8 15,.int .i64 2,.int .u8 128,.int .u8 191],[.int .u8 240,.int .u8 240,.int .u8 7,.int .i64 3,.int .u8 144,.int .u8 191],[.int .u8 241,.int .u8 243,.int .u8 7,.int .i64 3,.int .u8 128,.int .u8 191],[.int .u8 244,.int .u8 244,.int .u8 7,.int .i64 3,.int .u8 128,.int .u8 143]] cs (by simpa using hl) (fun i r hr=>by
  match i,hr with
  | 0,hr=>exact f0.trans (dI hr)
  | 1,hr=>exact f1.trans (dI hr)
  | 2,hr=>exact f2.trans (dI hr)
  | 3,hr=>exact f3.trans (dI hr)
  | 4,hr=>exact f4.trans (dI hr)
  | 5,hr=>exact f5.trans (dI hr)
  | 6,hr=>exact f6.trans (dI hr)
  | 7,hr=>exact f7.trans (dI hr)
  |n+8,hr=>simp at hr)
 rw[this];rfl
end
end Go.Proofs.YtheibfffilomcabGreatDoor
