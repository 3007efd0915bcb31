import Derived.Test.YtheibfffilomcaaGreatDoorTmaU
import Derived.Test.YtheibfffilomcaaGreatDoorToU
import Derived.Test.YtheibfffilomcaaGreatDoorTkU
set_option linter.all false
set_option maxRecDepth 100000
set_option maxHeartbeats 1000000
namespace Go.Proofs.YtheibfffilomcaaGreatDoor
open Go.RowKit Go.Proofs.Tryz
theorem Rf(L:Lay)(s:TS)(w:World)(ht:cO w L s)(hi:s.Inv)(ev:List Int)(hev:ev.length=21)(h5: -1≤ev.getD 5 0∧ev.getD 5 0≤65535)(h6: -1≤ev.getD 6 0∧ev.getD 6 0≤65535):Calls prog 111 #[.pointer (some ⟨L.tb,0,none⟩),.agg (aA ev)] w fun e w'=>e= .returned (.tuple #[])∧cO w' L (s.move (ev.getD 3 0) (ev.getD 5 0) (ev.getD 6 0))∧Ch L.own w w':=by
 have HT0:=ht.sm ((Ch.refl (fun _=>False) w).alloc (.cells (aA ev) 46));have e3:(w.alloc (.cells (aA ev) 46)).cell? ⟨w.heap.size,3,none⟩=some (.int .i64 (ev.getD 3 0)):=kD (bV _ _) (by omega);have e5:(w.alloc (.cells (aA ev) 46)).cell? ⟨w.heap.size,5,none⟩=some (.int .i64 (ev.getD 5 0)):=kD (bV _ _) (by omega);have e6:(w.alloc (.cells (aA ev) 46)).cell? ⟨w.heap.size,6,none⟩=some (.int .i64 (ev.getD 6 0)):=kD (bV _ _) (by omega);have ng:Hid (Ch L.own w (w.alloc (.cells (aA ev) 46))):=(Ch.refl _ _).alloc _;have hlt:=ht.lt;have Di:Hid (¬L.own w.heap.size):=fun h=>by have:=ht.pQ h;omega
 generalize ev.getD 3 0=f at*;generalize ev.getD 5 0=p0 at*;generalize ev.getD 6 0=p1 at*;have HI:Hid s.Inv:=hi;have HT:Hid _:=HT0;have c27:=HT0.c 27 _ rfl;have hn:1≤TS.times p0∧TS.times p0≤65535:=by unfold TS.times;omega
 have hm:1≤TS.times p1∧TS.times p1≤65535:=by unfold TS.times;omega
 have U8:∀u,_:=fun u=>iA p0 u;have lt1:∀u,_:=fun u=>iA p1 u;have hco:=hi.jA;have hc1:=hi.jD;have hc2:=hi.c2;have va:IntKind.i64.wrap (s.col+TS.times p0)=s.col+TS.times p0:=bD _ (by omega);have vb:IntKind.i64.wrap (s.col-TS.times p0)=s.col-TS.times p0:=bD _ (by omega);have vc:IntKind.i64.wrap (TS.times p0-1)=TS.times p0-1:=bD _ (by omega);have vd:IntKind.i64.wrap (TS.times p1-1)=TS.times p1-1:=bD _ (by omega);clear ht hi HT0;rcases(show f=65∨f=66∨f=67∨f=68∨f=71∨f=100∨f=72∨f=102∨¬(f=65∨f=66∨f=67∨f=68∨f=71∨f=100∨f=72∨f=102) by omega)with rfl|rfl|rfl|rfl|rfl|rfl|rfl|rfl|hf
 ·rw[show s.move 65 p0 p1=s.rise (TS.times p0) from rfl];have l1:=Rv L s _ HT.o HI.o (TS.times p0) (by omega);generalize TS.times p0=n at*;generalize TS.times p1=m at*;go_enter func111,ntmps111;go_wp2_with (first|(go_at_call 179;refine(U8 _).mono ?_;rintro e w1 ⟨rfl,hw1⟩;have hw2:=hw1.symm;subst hw2)|(go_at_call 180;refine l1.mono ?_;rintro e w9 ⟨rfl,h1,c1⟩));go_end0;exact⟨rfl,h1,ng.o.trans c1⟩
 ·rw[show s.move 66 p0 p1=s.sink (TS.times p0) from rfl];have l1:=RP L s _ HT.o HI.o (TS.times p0) (by omega);generalize TS.times p0=n at*;generalize TS.times p1=m at*;go_enter func111,ntmps111;go_wp2_with (first|(go_at_call 179;refine(U8 _).mono ?_;rintro e w1 ⟨rfl,hw1⟩;have hw2:=hw1.symm;subst hw2)|(go_at_call 181;refine l1.mono ?_;rintro e w9 ⟨rfl,h1,c1⟩));go_end0;exact⟨rfl,h1,ng.o.trans c1⟩
 ·rw[show s.move 67 p0 p1=s.bQ (s.col+TS.times p0) from rfl];have l1:=iN L s _ HT.o HI.o (s.col+TS.times p0);generalize TS.times p0=n at*;generalize TS.times p1=m at*;go_enter func111,ntmps111;go_wp2_with (first|(go_at_call 179;refine(U8 _).mono ?_;rintro e w1 ⟨rfl,hw1⟩;have hw2:=hw1.symm;subst hw2)|(go_at_call 104;refine l1.mono ?_;rintro e w9 ⟨rfl,h1,c1⟩));go_end0;exact⟨rfl,h1,ng.o.trans c1⟩
 ·rw[show s.move 68 p0 p1=s.bQ (s.col-TS.times p0) from rfl];have l1:=iN L s _ HT.o HI.o (s.col-TS.times p0);generalize TS.times p0=n at*;generalize TS.times p1=m at*;go_enter func111,ntmps111;go_wp2_with (first|(go_at_call 179;refine(U8 _).mono ?_;rintro e w1 ⟨rfl,hw1⟩;have hw2:=hw1.symm;subst hw2)|(go_at_call 104;refine l1.mono ?_;rintro e w9 ⟨rfl,h1,c1⟩));go_end0;exact⟨rfl,h1,ng.o.trans c1⟩
 ·rw[show s.move 71 p0 p1=s.bQ (TS.times p0-1) from rfl];have l1:=iN L s _ HT.o HI.o (TS.times p0-1);generalize TS.times p0=n at*;generalize TS.times p1=m at*;go_enter func111,ntmps111;go_wp2_with (first|(go_at_call 179;refine(U8 _).mono ?_;rintro e w1 ⟨rfl,hw1⟩;have hw2:=hw1.symm;subst hw2)|(go_at_call 104;refine l1.mono ?_;rintro e w9 ⟨rfl,h1,c1⟩));go_end0;exact⟨rfl,h1,ng.o.trans c1⟩
 ·rw[show s.move 100 p0 p1=s.bJ (TS.times p0-1) from rfl];have l1:=oZ L s _ HT.o HI.o (TS.times p0-1) (by omega);generalize TS.times p0=n at*;generalize TS.times p1=m at*;go_enter func111,ntmps111;go_wp2_with (first|(go_at_call 179;refine(U8 _).mono ?_;rintro e w1 ⟨rfl,hw1⟩;have hw2:=hw1.symm;subst hw2)|(go_at_call 182;refine l1.mono ?_;rintro e w9 ⟨rfl,h1,c1⟩));go_end0;exact⟨rfl,h1,ng.o.trans c1⟩
 ·rw[show s.move 72 p0 p1=(s.bJ (TS.times p0-1)).bQ (TS.times p1-1) from rfl];have l1:=oZ L s _ HT.o HI.o (TS.times p0-1) (by omega);have l2:∀u,cO u L (s.bJ (TS.times p0-1))→_:=fun u hu=>iN L (s.bJ (TS.times p0-1)) u hu (HI.o.bJ _) (TS.times p1-1);generalize TS.times p0=n at*;generalize TS.times p1=m at*;have FP:Hid (w.heap.size<(w.alloc (.cells (aA ev) 46)).heap.size):=by show _<_;simp
  go_enter func111,ntmps111;go_wp2_with (first|(go_at_call 179;refine(lt1 _).mono ?_;rintro e w1 ⟨rfl,hw1⟩;have hq:=h1;have hw2:=hw1.symm;subst hw2)|(go_at_call 179;refine(U8 _).mono ?_;rintro e w1 ⟨rfl,hw1⟩;have hw2:=hw1.symm;subst hw2)|(go_at_call 182;refine l1.mono ?_;rintro e w8 ⟨rfl,h1,c1⟩;have e6':=(dA (c1.block w.heap.size FP.o Di.o)).trans e6)|(go_at_call 104;refine(l2 _ h1).mono ?_;rintro e w9 ⟨rfl,h2,c2⟩));go_end0;exact⟨rfl,h2,ng.o.trans (c1.trans c2)⟩
 ·rw[show s.move 102 p0 p1=(s.bJ (TS.times p0-1)).bQ (TS.times p1-1) from rfl];have l1:=oZ L s _ HT.o HI.o (TS.times p0-1) (by omega);have l2:∀u,cO u L (s.bJ (TS.times p0-1))→_:=fun u hu=>iN L (s.bJ (TS.times p0-1)) u hu (HI.o.bJ _) (TS.times p1-1);generalize TS.times p0=n at*;generalize TS.times p1=m at*;have FP:Hid (w.heap.size<(w.alloc (.cells (aA ev) 46)).heap.size):=by show _<_;simp
  go_enter func111,ntmps111;go_wp2_with (first|(go_at_call 179;refine(lt1 _).mono ?_;rintro e w1 ⟨rfl,hw1⟩;have hq:=h1;have hw2:=hw1.symm;subst hw2)|(go_at_call 179;refine(U8 _).mono ?_;rintro e w1 ⟨rfl,hw1⟩;have hw2:=hw1.symm;subst hw2)|(go_at_call 182;refine l1.mono ?_;rintro e w8 ⟨rfl,h1,c1⟩;have e6':=(dA (c1.block w.heap.size FP.o Di.o)).trans e6)|(go_at_call 104;refine(l2 _ h1).mono ?_;rintro e w9 ⟨rfl,h2,c2⟩));go_end0;exact⟨rfl,h2,ng.o.trans (c1.trans c2)⟩
 ·have e:s.move f p0 p1=s:=by unfold TS.move;simp only[ai (show¬f=65 by omega),ai (show¬f=66 by omega),ai (show¬f=67 by omega),ai (show¬f=68 by omega),ai (show¬f=71 by omega),ai (show¬f=100 by omega),ai (show¬(f=72∨f=102) by omega)]
  rw[e];have b65:(f==65)=false:=by simp;omega
  have b66:(f==66)=false:=by simp;omega
  have b67:(f==67)=false:=by simp;omega
  have b68:(f==68)=false:=by simp;omega
  have b71:(f==71)=false:=by simp;omega
  have b100:(f==100)=false:=by simp;omega
  have b72:(f==72)=false:=by simp;omega
  have b102:(f==102)=false:=by simp;omega
  clear e hf;generalize TS.times p0=n at*;generalize TS.times p1=m at*;go_enter func111,ntmps111;go_wp2_with (go_at_call 179;refine(U8 _).mono ?_;rintro e w1 ⟨rfl,hw1⟩;have hw2:=hw1.symm;subst hw2);go_end0;exact⟨rfl,HT.o,ng.o⟩
def xL:List (Int × Int × Int):=[(0,31,0),(127,159,0),(768,879,0),(4352,4447,2),(8203,8207,0),(11904,42191,2),(44032,55203,2),(63744,64255,2),(65024,65039,0),(65072,65135,2),(65280,65376,2),(65504,65510,2),(127744,128591,2),(131072,262141,2)]
def oK (c:Int):List (Int × Int × Int)→Int
 | []=>1
 |(a,b,x)::r=>if a≤c∧c≤b then x else oK c r
def j_ (c:Int):Int:=oK c xL
def fT:Array Value:=#[.int .i64 0,.int .i64 31,.int .i64 0,.int .i64 127,.int .i64 159,.int .i64 0,.int .i64 768,.int .i64 879,.int .i64 0,.int .i64 4352,.int .i64 4447,.int .i64 2,.int .i64 8203,.int .i64 8207,.int .i64 0,.int .i64 11904,.int .i64 42191,.int .i64 2,.int .i64 44032,.int .i64 55203,.int .i64 2,.int .i64 63744,.int .i64 64255,.int .i64 2,.int .i64 65024,.int .i64 65039,.int .i64 0,.int .i64 65072,.int .i64 65135,.int .i64 2,.int .i64 65280,.int .i64 65376,.int .i64 2,.int .i64 65504,.int .i64 65510,.int .i64 2,.int .i64 127744,.int .i64 128591,.int .i64 2,.int .i64 131072,.int .i64 262141,.int .i64 2]
def A9 (w:World):Prop:=∃t fr,w.heap[1]? =some (.cells fT t fr)
theorem A9.kept{w w':World}(h:A9 w)(hb:w'.heap[1]? =w.heap[1]?):A9 w':=by obtain⟨t,fr,h⟩:=h;exact⟨t,fr,hb.trans h⟩
def We:Array Value:=#[.int .i64 0,.int .i64 127,.int .i64 768,.int .i64 4352,.int .i64 8203,.int .i64 11904,.int .i64 44032,.int .i64 63744,.int .i64 65024,.int .i64 65072,.int .i64 65280,.int .i64 65504,.int .i64 127744,.int .i64 131072]
def V7:Array Value:=#[.int .i64 31,.int .i64 159,.int .i64 879,.int .i64 4447,.int .i64 8207,.int .i64 42191,.int .i64 55203,.int .i64 64255,.int .i64 65039,.int .i64 65135,.int .i64 65376,.int .i64 65510,.int .i64 128591,.int .i64 262141]
def Wp:Array Value:=#[.int .i64 0,.int .i64 0,.int .i64 0,.int .i64 2,.int .i64 0,.int .i64 2,.int .i64 2,.int .i64 2,.int .i64 0,.int .i64 2,.int .i64 2,.int .i64 2,.int .i64 2,.int .i64 2]
theorem YG:(prog.info? 208).map (·.size)=some fT.size:=by kernel_rfl
theorem acU(w:World):(Instr.index 208 (.agg fT) (.int .i64 0)).run prog w= .ok (.agg #[.int .i64 0,.int .i64 31,.int .i64 0]) w:=by kernel_rfl
theorem acV(w:World):(Instr.index 208 (.agg fT) (.int .i64 1)).run prog w= .ok (.agg #[.int .i64 127,.int .i64 159,.int .i64 0]) w:=by kernel_rfl
theorem acW(w:World):(Instr.index 208 (.agg fT) (.int .i64 2)).run prog w= .ok (.agg #[.int .i64 768,.int .i64 879,.int .i64 0]) w:=by kernel_rfl
theorem acX(w:World):(Instr.index 208 (.agg fT) (.int .i64 3)).run prog w= .ok (.agg #[.int .i64 4352,.int .i64 4447,.int .i64 2]) w:=by kernel_rfl
theorem acY(w:World):(Instr.index 208 (.agg fT) (.int .i64 4)).run prog w= .ok (.agg #[.int .i64 8203,.int .i64 8207,.int .i64 0]) w:=by kernel_rfl
theorem acZ(w:World):(Instr.index 208 (.agg fT) (.int .i64 5)).run prog w= .ok (.agg #[.int .i64 11904,.int .i64 42191,.int .i64 2]) w:=by kernel_rfl
theorem ac0(w:World):(Instr.index 208 (.agg fT) (.int .i64 6)).run prog w= .ok (.agg #[.int .i64 44032,.int .i64 55203,.int .i64 2]) w:=by kernel_rfl
theorem ac1(w:World):(Instr.index 208 (.agg fT) (.int .i64 7)).run prog w= .ok (.agg #[.int .i64 63744,.int .i64 64255,.int .i64 2]) w:=by kernel_rfl
theorem ac2(w:World):(Instr.index 208 (.agg fT) (.int .i64 8)).run prog w= .ok (.agg #[.int .i64 65024,.int .i64 65039,.int .i64 0]) w:=by kernel_rfl
theorem ac3(w:World):(Instr.index 208 (.agg fT) (.int .i64 9)).run prog w= .ok (.agg #[.int .i64 65072,.int .i64 65135,.int .i64 2]) w:=by kernel_rfl
theorem YU(w:World):(Instr.index 208 (.agg fT) (.int .i64 10)).run prog w= .ok (.agg #[.int .i64 65280,.int .i64 65376,.int .i64 2]) w:=by kernel_rfl
theorem YV(w:World):(Instr.index 208 (.agg fT) (.int .i64 11)).run prog w= .ok (.agg #[.int .i64 65504,.int .i64 65510,.int .i64 2]) w:=by kernel_rfl
theorem YW(w:World):(Instr.index 208 (.agg fT) (.int .i64 12)).run prog w= .ok (.agg #[.int .i64 127744,.int .i64 128591,.int .i64 2]) w:=by kernel_rfl
theorem YX(w:World):(Instr.index 208 (.agg fT) (.int .i64 13)).run prog w= .ok (.agg #[.int .i64 131072,.int .i64 262141,.int .i64 2]) w:=by kernel_rfl
theorem RZ(k:Nat)(hk:k<14):
 ∃a b x:Int,(∀w,(Instr.index 208 (.agg fT) (.int .i64 k)).run prog w= .ok (.agg #[.int .i64 a,.int .i64 b,.int .i64 x]) w)∧
  xL.drop k=(a,b,x)::xL.drop (k+1)∧We[k]? =some (.int .i64 a)∧V7[k]? =some (.int .i64 b)∧Wp[k]? =some (.int .i64 x):=by
 match k,hk with
 | 0,_=>exact⟨_,_,_,acU,rfl,rfl,rfl,rfl⟩
 | 1,_=>exact⟨_,_,_,acV,rfl,rfl,rfl,rfl⟩
 | 2,_=>exact⟨_,_,_,acW,rfl,rfl,rfl,rfl⟩
 | 3,_=>exact⟨_,_,_,acX,rfl,rfl,rfl,rfl⟩
 | 4,_=>exact⟨_,_,_,acY,rfl,rfl,rfl,rfl⟩
 | 5,_=>exact⟨_,_,_,acZ,rfl,rfl,rfl,rfl⟩
 | 6,_=>exact⟨_,_,_,ac0,rfl,rfl,rfl,rfl⟩
 | 7,_=>exact⟨_,_,_,ac1,rfl,rfl,rfl,rfl⟩
 | 8,_=>exact⟨_,_,_,ac2,rfl,rfl,rfl,rfl⟩
 | 9,_=>exact⟨_,_,_,ac3,rfl,rfl,rfl,rfl⟩
 | 10,_=>exact⟨_,_,_,YU,rfl,rfl,rfl,rfl⟩
 | 11,_=>exact⟨_,_,_,YV,rfl,rfl,rfl,rfl⟩
 | 12,_=>exact⟨_,_,_,YW,rfl,rfl,rfl,rfl⟩
 | 13,_=>exact⟨_,_,_,YX,rfl,rfl,rfl,rfl⟩
 |n+14,h=>omega
theorem Dv{c a b x:Int}{l r:List (Int × Int × Int)}(e:l=(a,b,x)::r)(h1:a≤c)(h2:c≤b):oK c l=x:=by rw[e];simp only[oK];rw[ak ⟨h1,h2⟩]
theorem tN{c a b x:Int}{l r:List (Int × Int × Int)}(e:l=(a,b,x)::r)(h:¬(a≤c∧c≤b)):oK c l=oK c r:=by rw[e];simp only[oK];rw[ai h]
theorem La(c:Int)(w:World)(hsp:A9 w):
 Calls prog 98 #[.int .i64 c] w fun e w'=>e= .returned (.int .i64 (j_ c))∧Below w.heap.size w w':=by
 obtain⟨lt,lfr,uR⟩:=hsp;have HL:Hid _:=uR;clear uR;go_enter func98,ntmps98;go_wp2_with (refine fC rfl 208 _ rfl 1 rfl lt fT lfr _ HL.o underlying208 rfl YG ?_);go_loopw [6] (fun i wr=>∃k:Nat,k≤14∧i= .int .i64 k∧Below w.heap.size w wr∧Hid (oK c (xL.drop k)=j_ c)) (fun i _=>14-(intOf i).toNat)
 case atStart=>exact⟨0,dx _,rfl,dU _ _,rfl⟩
 case round=>
  obtain⟨k,hk,rfl,hbel,hno⟩:=hrel;by_cases hlt:k<14
  ·obtain⟨a,b,x,hidx,hdr,_,_,_⟩:=RZ k hlt;have HD:Hid _:=hdr;clear hdr;go_wp2_with fail
   ·have h1:a≤c:=by assumption
    have h2:c≤b:=by assumption
    go_ret;exact⟨by rw[←hno.o,Dv HD.o h1 h2];rfl,hbel.alloc hbel.size _⟩
   ·have h2:b<c:=by assumption
    go_roundw
    case rel=>exact⟨k+1,by omega,by go_num,hbel.alloc hbel.size _,by rw[←hno.o,tN HD.o (by omega)];rfl⟩
    case measure=>simp[intOf];omega
   ·have h2:¬a≤c:=by assumption
    go_roundw
    case rel=>exact⟨k+1,by omega,by go_num,hbel.alloc hbel.size _,by rw[←hno.o,tN HD.o (by omega)];rfl⟩
    case measure=>simp[intOf];omega
  ·have Yt:k=14:=by omega
   subst Yt;go_wp2_with fail;go_ret;exact⟨by rw[←hno.o];rfl,hbel⟩
theorem aas(w:World)(a b c:Obj):(((w.alloc a).alloc b).alloc c).heap[w.heap.size]? =some a∧(((w.alloc a).alloc b).alloc c).heap[w.heap.size+1]? =some b∧(((w.alloc a).alloc b).alloc c).heap[w.heap.size+2]? =some c:=by
 have z1:(w.alloc a).heap.size=w.heap.size+1:=by simp
 have z2:((w.alloc a).alloc b).heap.size=w.heap.size+2:=by simp
 refine⟨?_,?_,?_⟩
 ·exact(gK _ c _ (by omega)).trans ((gK _ b _ (by omega)).trans (bV w a))
 ·exact(gK _ c _ (by omega)).trans (z1▸bV (w.alloc a) b)
 ·exact z2▸bV ((w.alloc a).alloc b) c
theorem qo(c:Int)(w:World):
 Calls prog 120 #[.int .i64 c] w fun e w'=>e= .returned (.int .i64 (j_ c))∧Below w.heap.size w w':=by
 go_enter func120,ntmps120;go_wp2_with fail
 go_loopw [6] (fun i wr=>∃k:Nat,k≤14∧i= .int .i64 k∧Below w.heap.size w wr∧Hid (oK c (xL.drop k)=j_ c)∧
  wr.heap[w.heap.size]? =some (.cells We 3 (0,0))∧wr.heap[w.heap.size+1]? =some (.cells V7 3 (0,0))∧wr.heap[w.heap.size+2]? =some (.cells Wp 3 (0,0))) (fun i _=>14-(intOf i).toNat)
 case atStart=>
  refine⟨0,dx _,rfl,(((dU _ _).alloc (bN _) _).alloc (by simp) _).alloc (by simp;omega) _,rfl,?_,?_,?_⟩
  ·exact(aas _ _ _ _).1
  ·exact(aas _ _ _ _).2.1
  ·exact(aas _ _ _ _).2.2
 case round=>
  obtain⟨k,hk,rfl,hbel,hno,e1,e2,e3⟩:=hrel;by_cases hlt:k<14
  ·obtain⟨a,b,x,_,hdr,q1,q2,q3⟩:=RZ k hlt;have HD:Hid _:=hdr;clear hdr;have c1:=(bG _ _ k _ _ _ e1).trans q1;have c2:=(bG _ _ k _ _ _ e2).trans q2;have c3:=(bG _ _ k _ _ _ e3).trans q3;have E1:Hid _:=e1;have E2:Hid _:=e2;have E3:Hid _:=e3;clear e1 e2 e3 q1 q2 q3;go_wp2_with fail
   ·have h1:a≤c:=by assumption
    have h2:c≤b:=by assumption
    go_ret;exact⟨by rw[←hno.o,Dv HD.o h1 h2];rfl,hbel⟩
   ·have h2:b<c:=by assumption
    go_roundw
    case rel=>exact⟨k+1,by omega,by go_num,hbel,by rw[←hno.o,tN HD.o (by omega)];rfl,E1.o,E2.o,E3.o⟩
    case measure=>simp[intOf];omega
   ·have h2:¬a≤c:=by assumption
    go_roundw
    case rel=>exact⟨k+1,by omega,by go_num,hbel,by rw[←hno.o,tN HD.o (by omega)];rfl,E1.o,E2.o,E3.o⟩
    case measure=>simp[intOf];omega
  ·have Yt:k=14:=by omega
   subst Yt;clear e1 e2 e3;go_wp2_with fail;go_ret;exact⟨by rw[←hno.o];rfl,hbel⟩
def sH:List (Int × Int):=[(106,9496),(107,9488),(108,9484),(109,9492),(110,9532),(113,9472),(116,9500),(117,9508),(118,9524),(119,9516),(120,9474)]
def rJ (c:Int):List (Int × Int)→Int
 | []=>c
 |(a,b)::r=>if a=c then b else rJ c r
theorem J5(c:Int):rJ c sH=TS.mY c:=by simp only[rJ,sH,TS.mY,eq_comm (a:=c)]
def eY:Array Value:=#[.int .i64 106,.int .i64 9496,.int .i64 107,.int .i64 9488,.int .i64 108,.int .i64 9484,.int .i64 109,.int .i64 9492,.int .i64 110,.int .i64 9532,.int .i64 113,.int .i64 9472,.int .i64 116,.int .i64 9500,.int .i64 117,.int .i64 9508,.int .i64 118,.int .i64 9524,.int .i64 119,.int .i64 9516,.int .i64 120,.int .i64 9474]
def mE (w:World):Prop:=∃t fr,w.heap[2]? =some (.cells eY t fr)
theorem mE.kept{w w':World}(h:mE w)(hb:w'.heap[2]? =w.heap[2]?):mE w':=by obtain⟨t,fr,h⟩:=h;exact⟨t,fr,hb.trans h⟩
theorem UW:(prog.info? 237).map (·.size)=some eY.size:=by kernel_rfl
theorem acs(w:World):(Instr.index 237 (.agg eY) (.int .i64 0)).run prog w= .ok (.agg #[.int .i64 106,.int .i64 9496]) w:=by kernel_rfl
theorem acu(w:World):(Instr.index 237 (.agg eY) (.int .i64 1)).run prog w= .ok (.agg #[.int .i64 107,.int .i64 9488]) w:=by kernel_rfl
theorem acv(w:World):(Instr.index 237 (.agg eY) (.int .i64 2)).run prog w= .ok (.agg #[.int .i64 108,.int .i64 9484]) w:=by kernel_rfl
theorem acw(w:World):(Instr.index 237 (.agg eY) (.int .i64 3)).run prog w= .ok (.agg #[.int .i64 109,.int .i64 9492]) w:=by kernel_rfl
theorem acy(w:World):(Instr.index 237 (.agg eY) (.int .i64 4)).run prog w= .ok (.agg #[.int .i64 110,.int .i64 9532]) w:=by kernel_rfl
theorem acz(w:World):(Instr.index 237 (.agg eY) (.int .i64 5)).run prog w= .ok (.agg #[.int .i64 113,.int .i64 9472]) w:=by kernel_rfl
theorem acA(w:World):(Instr.index 237 (.agg eY) (.int .i64 6)).run prog w= .ok (.agg #[.int .i64 116,.int .i64 9500]) w:=by kernel_rfl
theorem acB(w:World):(Instr.index 237 (.agg eY) (.int .i64 7)).run prog w= .ok (.agg #[.int .i64 117,.int .i64 9508]) w:=by kernel_rfl
theorem acC(w:World):(Instr.index 237 (.agg eY) (.int .i64 8)).run prog w= .ok (.agg #[.int .i64 118,.int .i64 9524]) w:=by kernel_rfl
theorem acD(w:World):(Instr.index 237 (.agg eY) (.int .i64 9)).run prog w= .ok (.agg #[.int .i64 119,.int .i64 9516]) w:=by kernel_rfl
theorem YP(w:World):(Instr.index 237 (.agg eY) (.int .i64 10)).run prog w= .ok (.agg #[.int .i64 120,.int .i64 9474]) w:=by kernel_rfl
theorem Si(k:Nat)(hk:k<11):∃a b:Int,(∀w,(Instr.index 237 (.agg eY) (.int .i64 k)).run prog w= .ok (.agg #[.int .i64 a,.int .i64 b]) w)∧sH.drop k=(a,b)::sH.drop (k+1):=by
 match k,hk with
 | 0,_=>exact⟨_,_,acs,rfl⟩
 | 1,_=>exact⟨_,_,acu,rfl⟩
 | 2,_=>exact⟨_,_,acv,rfl⟩
 | 3,_=>exact⟨_,_,acw,rfl⟩
 | 4,_=>exact⟨_,_,acy,rfl⟩
 | 5,_=>exact⟨_,_,acz,rfl⟩
 | 6,_=>exact⟨_,_,acA,rfl⟩
 | 7,_=>exact⟨_,_,acB,rfl⟩
 | 8,_=>exact⟨_,_,acC,rfl⟩
 | 9,_=>exact⟨_,_,acD,rfl⟩
 | 10,_=>exact⟨_,_,YP,rfl⟩
 |n+11,h=>omega
theorem JO{c a b:Int}{l r:List (Int × Int)}(e:l=(a,b)::r)(h:a=c):rJ c l=b:=by rw[e];simp only[rJ];rw[ak h]
theorem GL{c a b:Int}{l r:List (Int × Int)}(e:l=(a,b)::r)(h:¬a=c):rJ c l=rJ c r:=by rw[e];simp only[rJ];rw[ai h]
theorem Nt(c:Int)(w:World)(hsp:mE w):Calls prog 170 #[.int .i64 c] w fun e w'=>e= .returned (.int .i64 (TS.mY c))∧Below w.heap.size w w':=by
 obtain⟨lt,lfr,uR⟩:=hsp;have HL:Hid _:=uR;clear uR;rw[←J5];go_enter func170,ntmps170;go_wp2_with (refine fC rfl 237 _ rfl 2 rfl lt eY lfr _ HL.o underlying237 rfl UW ?_);go_loopw [6] (fun i wr=>∃k:Nat,k≤11∧i= .int .i64 k∧Below w.heap.size w wr∧Hid (rJ c (sH.drop k)=rJ c sH)) (fun i _=>11-(intOf i).toNat)
 case atStart=>exact⟨0,dx _,rfl,dU _ _,rfl⟩
 case round=>
  obtain⟨k,hk,rfl,hbel,hno⟩:=hrel;by_cases hlt:k<11
  ·obtain⟨a,b,hidx,hdr⟩:=Si k hlt;have HD:Hid _:=hdr;clear hdr;by_cases hac:a=c
   ·have bq:(a==c)=true:=by simp[hac]
    have HA:Hid _:=hac;clear hac;go_wp2_with fail;go_ret;exact⟨by rw[←hno.o,JO HD.o HA.o];rfl,hbel.alloc hbel.size _⟩
   ·have bq:(a==c)=false:=by simp[hac]
    go_wp2_with fail;go_roundw
    case rel=>exact⟨k+1,by omega,by go_num,hbel.alloc hbel.size _,by rw[←hno.o,GL HD.o hac];rfl⟩
    case measure=>simp[intOf];omega
  ·have Yt:k=11:=by omega
   subst Yt;go_wp2_with fail;go_ret;exact⟨by rw[←hno.o];rfl,hbel⟩
theorem D_(L:Lay)(s:TS)(w:World)(ht:cO w L s)(hst:mE w)(c:Int):Calls prog 103 #[.pointer (some ⟨L.tb,0,none⟩),.int .i64 c] w fun e w'=>e= .returned (.int .i64 (s.spelt c))∧Sm w w':=by
 have c34:=ht.c 34 _ rfl;have c35:=ht.c 35 _ rfl;have c36:=ht.c 36 _ rfl;have l1:=Nt c w hst;have hX:s.spelt c=if(if s.use=1 then s.second else s.first)=1 then TS.mY c else c:=rfl;generalize s.spelt c=X at*;clear ht hst;by_cases hu:s.use=1
 ·rw[ak hu]at hX;have bu:(s.use==1)=true:=by simp[hu]
  by_cases ha:s.second=1
  ·rw[ak ha]at hX;have ba:(s.second==1)=true:=by simp[ha]
   have HX:Hid _:=hX;clear hX hu ha;go_enter func103,ntmps103;go_wp2_with (go_at_call 170;refine l1.mono ?_;rintro e w1 ⟨rfl,b1⟩);go_ret;exact⟨by rw[HX.o];rfl,Ch.of_below b1⟩
  ·rw[ai ha]at hX;have ba:(s.second==1)=false:=by simp[ha]
   have HX:Hid _:=hX;clear hX hu ha;go_enter func103,ntmps103;go_wp2_with fail;go_ret;exact⟨by rw[HX.o];rfl,Ch.refl _ _⟩
 ·rw[ai hu]at hX;have bu:(s.use==1)=false:=by simp[hu]
  by_cases ha:s.first=1
  ·rw[ak ha]at hX;have ba:(s.first==1)=true:=by simp[ha]
   have HX:Hid _:=hX;clear hX hu ha;go_enter func103,ntmps103;go_wp2_with (go_at_call 170;refine l1.mono ?_;rintro e w1 ⟨rfl,b1⟩);go_ret;exact⟨by rw[HX.o];rfl,Ch.of_below b1⟩
  ·rw[ai ha]at hX;have ba:(s.first==1)=false:=by simp[ha]
   have HX:Hid _:=hX;clear hX hu ha;go_enter func103,ntmps103;go_wp2_with fail;go_ret;exact⟨by rw[HX.o];rfl,Ch.refl _ _⟩
end Go.Proofs.YtheibfffilomcaaGreatDoor
