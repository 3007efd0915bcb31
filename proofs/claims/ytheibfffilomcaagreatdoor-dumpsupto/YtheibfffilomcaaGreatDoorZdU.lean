import Derived.Test.YtheibfffilomcaaGreatDoorTmaU
import Derived.Test.YtheibfffilomcaaGreatDoorXeU
import Derived.Test.YtheibfffilomcaaGreatDoorWdU
import Derived.Lib.Builder
import Derived.Lib.AppendStr
import Derived.Lib.UnsafeStr
import Derived.Test.YtheibfffilomcaaGreatDoorEvwU
import Derived.BigQuiet
import Derived.Deep.QuietTactic
set_option linter.all false
set_option maxRecDepth 100000
set_option maxHeartbeats 1000000
namespace Go.Proofs.YtheibfffilomcaaGreatDoor
open Go.RowKit Go.Proofs.Tryz
variable {w w':World} {wb k base tb:Nat} {v:Value} {L:List Int} {x:WS} {n:Int} {p:fO}
def FY (tb:Nat) (p v:Value) (q:fO):List Value:=[.pointer (some ⟨tb,0,none⟩),p,v,.bool q.b,.bool q.u,.bool q.t,.int .i64 q.f,.int .i64 q.k]
def lD (w:World) (base:Nat) (v:Value) (L:List Int):Prop:=w.ownsRow base 5 1 v L.length (L.map (Value.int .u8))
theorem Iz(s:ByteArray):Lib.strCells s=(bl s).map (Value.int .u8):=by unfold Lib.strCells bl;rw[List.map_map];rfl
def yJ (wb:Nat):Value:=.pointer (some ⟨wb,1,none⟩)
structure iK (w:World) (wb tb:Nat) (x:WS):Prop where
 ex:∃p v,w.heap[wb]? =some (.cells (FY tb p v x.pen).toArray 133 (0,0))∧(p= .pointer none∨p=yJ wb)∧lD w (wb+1) v x.tx
 Xx:∀i∈x.tx,0≤i∧i<256
theorem iK.lt{w:World}{wb tb:Nat}{x:WS}(h:iK w wb tb x):wb<w.heap.size:=by obtain⟨p,v,h,_⟩:=h.ex;exact aK h
theorem lD.keep(h:lD w base v L)(hb:∀k,base≤k→k<w.heap.size→w'.heap[k]? =w.heap[k]?):lD w' base v L:=by
 obtain⟨h1,h2⟩:=h;refine⟨h1,?_⟩;rcases h2 with h2|⟨g,cap,cur,hv,hg,hk,r⟩
 ·exact .inl h2
 ·exact .inr ⟨g,cap,cur,hv,hg,(hb g hg (aK hk)).trans hk,r⟩
theorem iK.keep(h:iK w wb tb x)(c:Below w.heap.size w w'):iK w' wb tb x:=by obtain⟨p,v,h1,h2,h3⟩:=h.ex;exact⟨⟨p,v,(c.block _ (aK h1)).trans h1,h2,h3.keep (fun k _ hk=>c.block k hk)⟩,h.Xx⟩
structure Wk (wb:Nat) (w w':World):Prop where
 b:Below wb w w'
 n:∀k,k<w.heap.size→k≠wb→(∀cs fr,w.heap[k]? ≠some (.cells cs 5 fr))→w'.heap[k]? =w.heap[k]?
theorem Wk.trans{u v:World}(h:Wk wb w u)(k:Wk wb u v):Wk wb w v:=
 ⟨h.b.trans k.b,fun i hi hn hb=>by
   have e:=h.n i hi hn hb
   exact(k.n i (fJ hi h.b.size) hn (fun cs fr=>by rw[e];exact hb cs fr)).trans e⟩
theorem Wk.of_below(h:Below w.heap.size w w')(hl:wb≤w.heap.size):Wk wb w w':=⟨h.mono hl,fun k hk _ _=>h.block k hk⟩
theorem Wk.refl(wb:Nat)(w:World):Wk wb w w:=⟨dU _ _,fun _ _ _ _=>rfl⟩
theorem Wk.at(h:Wk wb w w'){cs:Array Value}{t:TypeId}{fr:Nat × Nat}(hk:w.heap[k]? =some (.cells cs t fr))(hn:k≠wb)(ht:t≠5):w'.heap[k]? =some (.cells cs t fr):=
 (h.n k (aK hk) hn (fun cs' fr' e=>by rw[hk]at e;injection e with e;injection e with _ e2 _;exact ht e2)).trans hk
theorem lD.nb(h:lD w base v L)(hk:v.ownBlock=some k):∃cur,w.heap[k]? =some (.cells cur 5 (0,0)):=by
 rcases h.2 with⟨rfl,_⟩|⟨g,cap,cur,rfl,_,hg,_⟩
 ·simp[Value.ownBlock]at hk
 ·simp only[Value.ownBlock,xW]at hk;subst hk;exact⟨cur,hg⟩
structure Gr (v:Value) (w w':World):Prop where
 os:w'.os=w.os
 tape:w'.tape=w.tape
 output:w'.output=w.output
 size:w.heap.size≤w'.heap.size
 block:∀k,k<w.heap.size→v.ownBlock≠some k→w'.heap[k]? =w.heap[k]?
theorem QY:(prog.info? 5).map (fun i=>(i.zero,i.size,i.bytes))=some (some (.int .u8 0),1,1):=by kernel_rfl
theorem YL:(prog.info? 131).map (·.size)=some 2:=by kernel_rfl
theorem YK:∃j,prog.info? 131=some j∧j.size≠0:=by
 have h:=YL;cases e:prog.info? 131 with
 |none=>rw[e]at h;cases h
 |some j=>rw[e]at h;simp at h;exact⟨j,rfl,by omega⟩
theorem wW(wb tb:Nat)(p v:Value)(q:fO)(w:World)(h:w.heap[wb]? =some (.cells (FY tb p v q).toArray 133 (0,0)))(hp:p= .pointer none∨p=yJ wb):
 Calls prog 206 #[.pointer (some ⟨wb,1,none⟩)] w fun e w'=>e= .returned (.tuple #[])∧w'.heap[wb]? =some (.cells (FY tb (yJ wb) v q).toArray 133 (0,0))∧Ch (· =wb) w w':=by
 have c1:w.cell? ⟨wb,1,none⟩=some p:=(bG _ _ _ _ _ _ h).trans rfl;have f1:w.frozen? ⟨wb,1,none⟩=false:=oh _ _ _ _ _ h;have hsh:w.shape? wb=some (133,8):=by simp[World.shape?,h,FY]
 obtain⟨j,hj,hj0⟩:=YK;have hu1:(convert 128 222 (.pointer (some ⟨wb,1,none⟩))).run prog w= .ok (.pointer (some ⟨wb,1,none⟩)) w:=Lib.run_to_unsafe w ⟨wb,1,none⟩ (by kernel_rfl) (by kernel_rfl) hj hj0 hsh (show 1<8 by decide);have hu2:(convert 222 128 (.pointer (some ⟨wb,1,none⟩))).run prog w= .ok (.pointer (some ⟨wb,1,none⟩)) w:=Lib.run_from_unsafe w ⟨wb,1,none⟩ (by kernel_rfl) (by kernel_rfl) hj hsh (by kernel_rfl);have hne:∀u:World,(binOp .neq 128 (.pointer (some ⟨wb,1,none⟩)) (.pointer (some ⟨wb,1,none⟩))).run prog u= .ok (.bool false) u:=fun u=>Lib.run_neq_ptr_same u ⟨wb,1,none⟩ (by kernel_rfl) hj;have ai5:∀u:World,(callFunc 234 #[.pointer (some ⟨wb,1,none⟩)]).run prog u= .ok (.value (.pointer (some ⟨wb,1,none⟩))) u:=by intro u;kernel_rfl
 have H:Hid _:=h;have hcs:∀x:Value,(w.setCell ⟨wb,1,none⟩ x).cell? ⟨wb,1,none⟩=some x:=fun x=>by rw[bG _ _ _ _ _ _ (rR w wb 1 _ _ _ h)];rfl
 clear h hj hj0 hsh;rcases hp with rfl|rfl
 ·go_enter func206,ntmps206;go_wp2_with fail;go_end0;refine⟨rfl,?_,(Ch.refl _ _).set _ _ _ (fun _=>rfl)⟩;rw[rR w wb 1 _ _ _ H.o];rfl
 ·unfold yJ at*;go_enter func206,ntmps206;go_wp2_with fail;go_end0;exact⟨rfl,H.o,Ch.refl _ _⟩
theorem iK.of{p:Value}(h:w.heap[wb]? =some (.cells (FY tb p v x.pen).toArray 133 (0,0)))(hp:p= .pointer none∨p=yJ wb)(hb:lD w (wb+1) v x.tx)(h8:∀i∈x.tx,0≤i∧i<256):iK w wb tb x:=⟨⟨p,v,h,hp,hb⟩,h8⟩
theorem LH{l:List Int}(h:∀i∈x.tx,0≤i∧i<256)(k:∀i∈l,0≤i∧i<256):∀i∈(x.put l).tx,0≤i∧i<256:=by
 intro i hi;rcases nM.1 (show i∈x.tx++l from hi)with e|e
 ·exact h i e
 ·exact k i e
theorem Xw(s:ByteArray):∀i∈bl s,0≤i∧i<256:=by intro i hi;unfold bl at hi;obtain⟨b,_,rfl⟩:=List.mem_map.1 hi;have:=b.toNat_lt;omega
theorem lD.ne(h:lD w (wb+1) v L)(hk:v.ownBlock=some k):wb<k:=((wN h) k hk).1
theorem aG(wb tb:Nat)(x:WS)(s:ByteArray)(w:World)(h:iK w wb tb x)(hx:x.tx.length≤900000000)(hs:s.size≤100000):
 Calls prog 150 #[.pointer (some ⟨wb,1,none⟩),.string s] w fun e w'=>(∃v,e= .returned v)∧iK w' wb tb (x.put (bl s))∧Wk wb w w':=by
 obtain⟨p,v,h1,h2,h3⟩:=h.ex;have l1:=wW wb tb p v x.pen w h1 h2;have HB:Hid (lD w (wb+1) v x.tx):=h3;have H8:Hid (∀i∈x.tx,0≤i∧i<256):=h.Xx;have hlt:=aK h1;clear h h1 h2 h3;go_enter func150,ntmps150;go_wp2_with fail;refine l1.mono ?_;rintro e w1 ⟨rfl,g1,k1⟩;have c2:w1.cell? ⟨wb,2,none⟩=some v:=(bG _ _ _ _ _ _ g1).trans rfl;have B1:lD w1 (wb+1) v x.tx:=HB.o.keep (fun k hk hks=>k1.block k hks (by omega));obtain⟨i0,hi,hz0,hz1,hz2⟩:=info_parts QY;have HG:Hid _:=g1;have hsz:=k1.size;clear g1 l1;go_wp2_with (at_builtin;refine Lib.wpList_append_own_string w1 rfl (.tmp 12) (.tmp 13) 129 9 rfl (wb+1) 5 i0 (by kernel_rfl) (by kernel_rfl) hi hz0 hz1 hz2 v _ _ rfl B1 s rfl (by unfold maxLen;omega) (by omega) (by omega) ?_);intro v2 w2 kM gr2 _;obtain⟨ao,nn,cc,rfl⟩:∃ao nn cc,v2= .slice ao nn cc:=by rcases kM.2 with⟨rfl,_⟩|⟨g,cap,cur,rfl,_⟩<;>exact⟨_,_,_,rfl⟩
 have g2:w2.heap[wb]? =some (.cells (FY tb (yJ wb) v x.pen).toArray 133 (0,0)):=(gr2.block wb (aK HG.o) (fun e=>by have:=B1.ne e.symm;omega)).trans HG.o;have f2:w2.frozen? ⟨wb,2,none⟩=false:=oh _ _ _ _ _ g2;have c22:w2.cell? ⟨wb,2,none⟩=some v:=(bG _ _ _ _ _ _ g2).trans rfl;have HG2:Hid _:=g2;have Ar:Hid _:=kM;have Za:Hid _:=gr2;clear g2 kM gr2 c2;go_wp2_with fail;go_ret2;have hg3:(w2.setCell ⟨wb,2,none⟩ (.slice ao nn cc)).heap[wb]? =_:=rR w2 wb 2 _ _ _ HG2.o;have hso:∀k,k≠wb→(w2.setCell ⟨wb,2,none⟩ (.slice ao nn cc)).heap[k]? =w2.heap[k]? :=fun k hk=>AQ _ _ _ _ (fun e=>hk e);refine⟨⟨_,rfl⟩,iK.of (p:=yJ wb) (v:=.slice ao nn cc) (hg3.trans rfl) (.inr rfl) ?_ (LH H8.o (Xw s)),?_⟩
 ·have e:(x.put (bl s)).tx=x.tx++bl s:=rfl;have o3:=Ar.o;rw[Iz, ←List.map_append]at o3;rw[e];refine lD.keep (w:=w2) ?_ (fun k hk _=>hso k (by omega));unfold lD;rw[fU,cZ];exact o3
 ·have b1:Below wb w w1:=k1.below (by omega) (fun k hk e=>by omega);have b2:Below wb w1 w2:=⟨Za.o.os,Za.o.tape,Za.o.output,Za.o.size,fun k hk=>Za.o.block k (by omega) (fun e=>by have:=B1.ne e.symm;omega)⟩;refine⟨(b1.trans b2).trans ⟨rfl,rfl,rfl,by simp,fun k hk=>hso k (by omega)⟩,fun k hk hn hb=>?_⟩;refine(hso k hn).trans ((Za.o.block k (by omega) (fun e=>?_)).trans (k1.block k hk hn));obtain⟨cur,hc⟩:=B1.nb e.symm;exact hb cur (0,0) ((k1.block k hk hn).symm.trans hc)
theorem P_(s:ByteArray)(a b:Nat):bl (s.extract a b)=((bl s).drop a).take (b-a):=by unfold bl;rw[ByteArray.data_extract,Array.toList_extract,List.extract_eq_take_drop,List.map_take,List.map_drop]
def aa0:ByteArray:={data:=#[48,49,50,51,52,53,54,55,56,57,97,98,99,100,101,102,103,104,105,106,107,108,109,110,111,112,113,114,115,116,117,118,119,120,121,122]}
def I8:ByteArray:={data:=#[48,48,48,49,48,50,48,51,48,52,48,53,48,54,48,55,48,56,48,57,49,48,49,49,49,50,49,51,49,52,49,53,49,54,49,55,49,56,49,57,50,48,50,49,50,50,50,51,50,52,50,53,50,54,50,55,50,56,50,57,51,48,51,49,51,50,51,51,51,52,51,53,51,54,51,55,51,56,51,57,52,48,52,49,52,50,52,51,52,52,52,53,52,54,52,55,52,56,52,57,53,48,53,49,53,50,53,51,53,52,53,53,53,54,53,55,53,56,53,57,54,48,54,49,54,50,54,51,54,52,54,53,54,54,54,55,54,56,54,57,55,48,55,49,55,50,55,51,55,52,55,53,55,54,55,55,55,56,55,57,56,48,56,49,56,50,56,51,56,52,56,53,56,54,56,55,56,56,56,57,57,48,57,49,57,50,57,51,57,52,57,53,57,54,57,55,57,56,57,57]}
theorem M6:∀n:Nat,n<10→((bl aa0).drop n).take (n+1-n)=jB (n:Int):=by decide+kernel
theorem UA:∀n:Nat,n<100→10≤n→((bl I8).drop (n*2)).take (n*2+2-n*2)=jB (n:Int):=by decide+kernel
theorem Og(n:Nat)(hn:n<100)(w:World):Calls prog 242 #[.int .i64 (n:Int)] w fun e w'=>(∃U:ByteArray,e= .returned (.string U)∧bl U=jB (n:Int))∧w'=w:=by
 by_cases h:n<10
 ·have hi:(n:Int)<10:=by omega
  have v1:IntKind.i64.wrap ((n:Int)+1)=(n:Int)+1:=bD _ (by omega);have i2:(n:Int)+1≤36:=by omega
  go_enter func242,ntmps242;go_wp2_with fail;go_ret;exact⟨⟨_,rfl,(P_ aa0 n (n+1)).trans (M6 n h)⟩,rfl⟩
 ·have hi:¬(n:Int)<10:=by omega
  have v1:IntKind.i64.wrap ((n:Int)*2)=(n:Int)*2:=bD _ (by omega);have v2:IntKind.i64.wrap ((n:Int)*2+2)=(n:Int)*2+2:=bD _ (by omega);have i2:(n:Int)*2+2≤200:=by omega
  go_enter func242,ntmps242;go_wp2_with fail;go_ret;exact⟨⟨_,rfl,(P_ I8 (n*2) (n*2+2)).trans (UA n hn (by omega))⟩,rfl⟩
def tK (n:Int):ByteArray:=strOfNums (jB n)
theorem zo(h:0≤n∧n<100):∀x∈jB n,0≤x∧x<256:=by
 intro x hx;unfold jB at hx;split at hx
 ·simp at hx;omega
 ·simp at hx;rcases hx with rfl|rfl<;>omega
theorem vM(h:0≤n∧n<100):bl (tK n)=jB n:=LF _ (zo h)
theorem oJ(n:Int):(tK n).size≤2:=by unfold tK;rw[DK];unfold jB;split<;>simp
theorem Ex{a b:ByteArray}(h:bl a=bl b):a=b:=by
 apply ByteArray.ext;apply Array.toList_inj.1;unfold bl at h
 exact List.map_inj_right (fun x y e=>by
  have:x.toNat=y.toNat:=by omega
  exact UInt8.toNat_inj.1 this) |>.1 h
theorem RY(n:Nat)(hn:n<100)(w:World):Calls prog 242 #[.int .i64 (n:Int)] w fun e w'=>e= .returned (.string (tK (n:Int)))∧w'=w:=by refine(Og n hn w).mono ?_;rintro e w' ⟨⟨U,rfl,h1⟩,h2⟩;exact⟨by rw[Ex (h1.trans (vM (by omega)).symm)],h2⟩
theorem uS(n:Nat)(hn:n<100)(w:World):Calls prog 149 #[.int .i64 (n:Int)] w fun e w'=>e= .returned (.string (tK (n:Int)))∧w'=w:=by
 have l1:=RY n hn w;have i0:(0:Int)≤(n:Int):=by omega
 have i1:(n:Int)<100:=by omega
 generalize tK (n:Int)=D at*;have l2:Calls prog 233 #[.int .i64 (n:Int),.int .i64 10] w fun e w'=>e= .returned (.string D)∧w'=w:=by go_enter func233,ntmps233;go_wp2_with (go_at_call 242;refine l1.mono ?_;rintro e w1 ⟨rfl,hw1⟩;have hw2:=hw1.symm;subst hw2);go_ret;exact⟨rfl,rfl⟩
 have l3:Calls prog 205 #[.int .i64 (n:Int)] w fun e w'=>e= .returned (.string D)∧w'=w:=by go_enter func205,ntmps205;go_wp2_with (go_at_call 233;refine l2.mono ?_;rintro e w1 ⟨rfl,hw1⟩;have hw2:=hw1.symm;subst hw2);go_ret;exact⟨rfl,rfl⟩
 go_enter func149,ntmps149;go_wp2_with (go_at_call 205;refine l3.mono ?_;rintro e w1 ⟨rfl,hw1⟩;have hw2:=hw1.symm;subst hw2);go_ret;exact⟨rfl,rfl⟩
def si (a b:Int):ByteArray:=tK (a+1)++{data:=#[59]}++tK (b+1)
theorem H6{a b:Int}(ha:0≤a∧a<99)(hb:0≤b∧b<99):bl (si a b)=lY a b:=by unfold si lY;rw[aL,aL,vM (by omega),vM (by omega),show bl ({data:=#[59]}:ByteArray)=[59] by kernel_rfl];simp
theorem BD(a b:Int):(si a b).size≤5:=by have h1:=oJ (a+1);have h2:=oJ (b+1);have h3:({data:=#[59]}:ByteArray).size=1:=rfl;unfold si;rw[iC,iC,h3];omega
theorem H7(a b:Nat)(ha:a<99)(hb:b<99)(w:World):Calls prog 151 #[.int .i64 (a:Int),.int .i64 (b:Int)] w fun e w'=>e= .returned (.string (si (a:Int) (b:Int)))∧w'=w:=by have l1:=uS (a+1) (by omega) w;have l2:=uS (b+1) (by omega) w;have v1:IntKind.i64.wrap ((a:Int)+1)=(a:Int)+1:=bD _ (by omega);have v2:IntKind.i64.wrap ((b:Int)+1)=(b:Int)+1:=bD _ (by omega);rw[show(((a+1:Nat)):Int)=(a:Int)+1 by omega]at l1;rw[show(((b+1:Nat)):Int)=(b:Int)+1 by omega]at l2;have z1:=oJ ((a:Int)+1);have z2:=oJ ((b:Int)+1);unfold si;generalize tK ((a:Int)+1)=A at*;generalize tK ((b:Int)+1)=B at*;go_enter func151,ntmps151;go_wp2_with fail;refine l1.mono ?_;rintro e w1 ⟨rfl,hw1⟩;have hw2:=hw1.symm;subst hw2;go_wp2_with fail;refine l2.mono ?_;rintro e w1 ⟨rfl,hw1⟩;have hw2:=hw1.symm;subst hw2;go_wp2_with fail;go_ret;exact⟨rfl,rfl⟩
theorem gT(wb tb:Nat)(x:WS)(s:ByteArray)(w:World)(h:iK w wb tb x)(hx:x.tx.length≤800000000)(hs:s.size≤90000):
 Calls prog 146 #[.pointer (some ⟨wb,0,none⟩),.string s] w fun e w'=>e= .returned (.tuple #[])∧iK w' wb tb (x.seq (bl s))∧Wk wb w w':=by
 have l1:=aG wb tb x {data:=#[27,91]} w h (by omega) (by decide);go_enter func146,ntmps146;go_wp2_with fail;refine l1.mono ?_;rintro e w1 ⟨⟨v1,rfl⟩,h1,b1⟩;have l2:=aG wb tb _ s w1 h1 (by show(x.tx++_).length≤_;rw[fU,cZ];show x.tx.length+2≤900000000;omega) (by omega);go_wp2_with fail;refine l2.mono ?_;rintro e w2 ⟨⟨v2,rfl⟩,h2,b2⟩;go_wp2_with fail;go_end0;refine⟨rfl,?_,b1.trans b2⟩;have e:(x.put (bl {data:=#[27,91]})).put (bl s)=x.seq (bl s):=by show(⟨x.tx++bl {data:=#[27,91]}++bl s,x.pen⟩:WS)=⟨x.tx++([27,91]++bl s),x.pen⟩;rw[show bl ({data:=#[27,91]}:ByteArray)=[27,91] by kernel_rfl,f_]
 rw[←e];exact h2
theorem uU(wb tb:Nat)(x:WS)(r c:Nat)(hr:r<99)(hc:c<99)(w:World)(h:iK w wb tb x)(hx:x.tx.length≤800000000):
 Calls prog 208 #[.pointer (some ⟨wb,0,none⟩),.int .i64 (r:Int),.int .i64 (c:Int)] w fun e w'=>e= .returned (.tuple #[])∧iK w' wb tb (x.place r c)∧Wk wb w w':=by
 have l1:=H7 r c hr hc w;have zp:=BD (r:Int) (c:Int);have l2:=gT wb tb x (si (r:Int) (c:Int)++{data:=#[72]}) w h hx (by rw[iC];show(si (r:Int) (c:Int)).size+1≤_;omega);have e:x.seq (bl (si (r:Int) (c:Int)++{data:=#[72]}))=x.place r c:=by unfold WS.place;rw[aL,H6 (by omega) (by omega),show bl ({data:=#[72]}:ByteArray)=[72] by kernel_rfl]
 rw[e]at l2;clear e h;generalize si (r:Int) (c:Int)=D at*;go_enter func208,ntmps208;go_wp2_with fail;refine l1.mono ?_;rintro e w1 ⟨rfl,hw1⟩;have hw2:=hw1.symm;subst hw2;go_wp2_with fail;refine l2.mono ?_;rintro e w2 ⟨rfl,h2,b2⟩;go_wp2_with fail;go_end0;exact⟨rfl,h2,b2⟩
theorem yS{ops:Array Oper}{rest:List Oper}{o:Oper}{a:Act}{Q:Exit→Act→World→Prop}(u:World)(hgd:o.guard=none)(s x:Operand)(ho:o.op= .call {callee:=.builtin .append,args:=#[s,x],argTypes:=#[129,129]})(base:Nat)(v:Value)(L ys:List Int)(hs:a.eval s=v)(own:lD u base v L)(n:Nat)(hn:ys.length=n)(g:Nat)(hg:g=u.heap.size)(hx:a.eval x= .slice (some ⟨g,0,none⟩) n n)(cs:Array Value)(hcs:cs=(ys.map (Value.int .u8)).toArray)(hL:L.length≤1000000000)(hy:ys.length≤4)(hy0:1≤ys.length)(hb:base≤u.heap.size)(h:∀v' w',lD w' base v' (L++ys)→Gr v u w'→wpList prog ops Q rest (a.put o.dst v') w'):wpList prog ops Q (o::rest) a (u.alloc (.cells cs 5)):=by
 obtain⟨i0,hi,hz0,hz1,hz2⟩:=info_parts QY;subst hg hcs;refine wpList_append_own _ hgd s x 129 ho base 5 i0 (.int .u8 0) 1 1 (by kernel_rfl) hi hz0 hz1 hz2 rfl (by decide) v _ _ hs (xS own _) ⟨u.heap.size,0,none⟩ n n (ys.map (Value.int .u8)) hx (by simp[hn]) ?_ ?_ ?_ ?_ ?_ ?_
 ·intro j z hj;have hadd:(⟨u.heap.size,0,none⟩:Addr).add j=⟨u.heap.size,0+j,none⟩:=by unfold Addr.add;split<;>simp_all
  rw[hadd,bG _ _ _ _ _ _ (bV u _),lH];simpa using hj
 ·intro z hz;obtain⟨y,_,rfl⟩:=List.mem_map.1 hz;rfl
 ·unfold maxLen;omega
 ·omega
 ·simp;omega
 ·intro v' w' hown hgrow _;refine h v' w' ?_ ?_
  ·unfold lD;rw[List.map_append,fU,hn];exact hown
  ·have hz:u.heap.size≤w'.heap.size:=by have:=hgrow.size;simp at this;omega
   exact⟨hgrow.os,hgrow.tape,hgrow.output,hz,fun k hk hn=>(hgrow.block k (by simp;omega) (fun e=>hn e.symm)).trans (gK _ _ _ hk)⟩
theorem Xr(base:Nat)(v:Value)(L:List Int)(c:Int)(h0:128≤c)(h1:c<2048)(w:World)(own:lD w base v L)(hL:L.length≤1000000000)(hb:base≤w.heap.size):
 Calls prog 252 #[v,.int .i32 c] w fun e w'=>∃v',e= .returned v'∧lD w' base v' (L++[192+c / 64,128+c % 64])∧Gr v w w':=by
 have HO:Hid _:=own;clear own;go_enter func252,ntmps252;go_wp2_with (at_builtin;refine yS w rfl (.tmp 14) (.tmp 23) rfl base v L [192+c / 64,128+c % 64] rfl HO.o 2 rfl w.heap.size rfl rfl _ rfl hL (show 2≤4 by decide) (show 1≤2 by decide) hb ?_);intro v2 w2 kM b2;have H2:Hid _:=kM;have HB:Hid _:=b2;clear kM b2;go_wp2_with fail;go_ret;exact⟨v2,rfl,H2.o,HB.o⟩
theorem Uo(base:Nat)(v:Value)(L:List Int)(c:Int)(h0:2048≤c)(h1:c<55296)(w:World)(own:lD w base v L)(hL:L.length≤1000000000)(hb:base≤w.heap.size):
 Calls prog 252 #[v,.int .i32 c] w fun e w'=>∃v',e= .returned v'∧lD w' base v' (L++[224+c / 4096,128+c / 64 % 64,128+c % 64])∧Gr v w w':=by
 have HO:Hid _:=own;clear own;go_enter func252,ntmps252;go_wp2_with (at_builtin;refine yS w rfl (.tmp 34) (.tmp 48) rfl base v L [224+c / 4096,128+c / 64 % 64,128+c % 64] rfl HO.o 3 rfl w.heap.size rfl rfl _ rfl hL (show 3≤4 by decide) (show 1≤3 by decide) hb ?_);intro v2 w2 kM b2;have H2:Hid _:=kM;have HB:Hid _:=b2;clear kM b2;go_wp2_with fail;go_ret;exact⟨v2,rfl,H2.o,HB.o⟩
theorem Uq(base:Nat)(v:Value)(L:List Int)(c:Int)(h0:57344≤c)(h1:c<65536)(w:World)(own:lD w base v L)(hL:L.length≤1000000000)(hb:base≤w.heap.size):
 Calls prog 252 #[v,.int .i32 c] w fun e w'=>∃v',e= .returned v'∧lD w' base v' (L++[224+c / 4096,128+c / 64 % 64,128+c % 64])∧Gr v w w':=by
 have HO:Hid _:=own;clear own;go_enter func252,ntmps252;go_wp2_with (at_builtin;refine yS w rfl (.tmp 34) (.tmp 48) rfl base v L [224+c / 4096,128+c / 64 % 64,128+c % 64] rfl HO.o 3 rfl w.heap.size rfl rfl _ rfl hL (show 3≤4 by decide) (show 1≤3 by decide) hb ?_);intro v2 w2 kM b2;have H2:Hid _:=kM;have HB:Hid _:=b2;clear kM b2;go_wp2_with fail;go_ret;exact⟨v2,rfl,H2.o,HB.o⟩
theorem Xt(base:Nat)(v:Value)(L:List Int)(c:Int)(h0:65536≤c)(h1:c≤1114111)(w:World)(own:lD w base v L)(hL:L.length≤1000000000)(hb:base≤w.heap.size):
 Calls prog 252 #[v,.int .i32 c] w fun e w'=>∃v',e= .returned v'∧lD w' base v' (L++[240+c / 262144,128+c / 4096 % 64,128+c / 64 % 64,128+c % 64])∧Gr v w w':=by
 have HO:Hid _:=own;clear own;go_enter func252,ntmps252;go_wp2_with (at_builtin;refine yS w rfl (.tmp 57) (.tmp 76) rfl base v L [240+c / 262144,128+c / 4096 % 64,128+c / 64 % 64,128+c % 64] rfl HO.o 4 rfl w.heap.size rfl rfl _ rfl hL (show 4≤4 by decide) (show 1≤4 by decide) hb ?_);intro v2 w2 kM b2;have H2:Hid _:=kM;have HB:Hid _:=b2;clear kM b2;go_wp2_with fail;go_ret;exact⟨v2,rfl,H2.o,HB.o⟩
theorem PW(base:Nat)(v:Value)(L:List Int)(c:Int)(h0:128≤c)(hc:zh c)(w:World)(own:lD w base v L)(hL:L.length≤1000000000)(hb:base≤w.heap.size):
 Calls prog 252 #[v,.int .i32 c] w fun e w'=>∃v',e= .returned v'∧lD w' base v' (L++oP c)∧Gr v w w':=by
 obtain⟨_,h1,h2⟩:=hc;unfold oP;rw[ai (by omega)];by_cases a2:c<2048
 ·rw[ak a2];exact Xr base v L c h0 a2 w own hL hb
 ·rw[ai a2];by_cases a3:c<65536
  ·rw[ak a3];by_cases a4:c<55296
   ·exact Uo base v L c (by omega) a4 w own hL hb
   ·exact Uq base v L c (by omega) a3 w own hL hb
  ·rw[ai a3];exact Xt base v L c (by omega) h1 w own hL hb
theorem PX(base:Nat)(v:Value)(L:List Int)(c:Int)(hc:zh c)(w:World)(own:lD w base v L)(hL:L.length≤1000000000)(hb:base≤w.heap.size):
 Calls prog 246 #[v,.int .i32 c] w fun e w'=>∃v',e= .returned v'∧lD w' base v' (L++oP c)∧Gr v w w':=by
 have hc':=hc;obtain⟨h0,h1,h2⟩:=hc;by_cases a1:c<128
 ·have e:oP c=[c]:=by unfold oP;rw[ak a1]
  rw[e];have HO:Hid _:=own;clear own e hc' h2;have i1:c≤127:=by omega
  go_enter func246,ntmps246;go_wp2_with (at_builtin;refine yS w rfl (.tmp 8) (.tmp 11) rfl base v L [c] rfl HO.o 1 rfl w.heap.size rfl rfl _ rfl hL (show 1≤4 by decide) (show 1≤1 by decide) hb ?_);intro v2 w2 kM b2;have H2:Hid _:=kM;have HB:Hid _:=b2;clear kM b2;go_wp2_with fail;go_ret;exact⟨v2,rfl,H2.o,HB.o⟩
 ·have l1:=PW base v L c (by omega) hc' w own hL hb;have i1:¬c≤127:=by omega
  clear own hc' h2;generalize oP c=D at*;go_enter func246,ntmps246;go_wp2_with (go_at_call 252;refine l1.mono ?_;rintro e w1 ⟨v',rfl,o1,b1⟩);go_ret;exact⟨v',rfl,o1,b1⟩
theorem CS(wb tb:Nat)(x:WS)(c:Int)(hc:zh c)(w:World)(h:iK w wb tb x)(hx:x.tx.length≤900000000):
 Calls prog 241 #[.pointer (some ⟨wb,1,none⟩),.int .i32 c] w fun e w'=>(∃v,e= .returned v)∧iK w' wb tb (x.put (oP c))∧Wk wb w w':=by
 obtain⟨p,v,h1,h2,h3⟩:=h.ex;have H8:Hid (∀i∈x.tx,0≤i∧i<256):=h.Xx;have H9:Hid (∀i∈oP c,0≤i∧i<256):=OA c hc.1 (by have:=hc.2.1;omega);have l1:=wW wb tb p v x.pen w h1 h2;have hlt:=aK h1;obtain⟨ao,nn,cc,rfl⟩:∃ao nn cc,v= .slice ao nn cc:=by rcases h3.2 with⟨rfl,_⟩|⟨g,cap,cur,rfl,_⟩<;>exact⟨_,_,_,rfl⟩
 have hnn:nn≤900000000:=by
  rcases h3.2 with⟨e,_⟩|⟨g,cap,cur,e,_⟩
  ·injection e with _ e2 _;omega
  ·injection e with _ e2 _;omega
 have HB:Hid (lD w (wb+1) (.slice ao nn cc) x.tx):=h3;clear h h1 h2 h3;go_enter func241,ntmps241;go_wp2_with fail;refine l1.mono ?_;rintro e w1 ⟨rfl,g1,k1⟩;have c2:w1.cell? ⟨wb,2,none⟩=some (.slice ao nn cc):=(bG _ _ _ _ _ _ g1).trans rfl;have B1:lD w1 (wb+1) (.slice ao nn cc) x.tx:=HB.o.keep (fun k hk hks=>k1.block k hks (by omega));have hsz:=k1.size;have l2:=PX (wb+1) (.slice ao nn cc) x.tx c hc w1 B1 (by omega) (by omega);have HG:Hid _:=g1;clear g1 l1;go_wp2_with fail;refine l2.mono ?_;rintro e w2 ⟨v2,rfl,kM,b2⟩;obtain⟨ao2,nn2,cc2,rfl⟩:∃ao nn cc,v2= .slice ao nn cc:=by rcases kM.2 with⟨rfl,_⟩|⟨g,cap,cur,rfl,_⟩<;>exact⟨_,_,_,rfl⟩
 have g2:w2.heap[wb]? =some (.cells (FY tb (yJ wb) (.slice ao nn cc) x.pen).toArray 133 (0,0)):=(b2.block wb (by omega) (fun e=>by have:=B1.ne e;omega)).trans HG.o;have f2:w2.frozen? ⟨wb,2,none⟩=false:=oh _ _ _ _ _ g2;have c22:w2.cell? ⟨wb,2,none⟩=some (.slice ao nn cc):=(bG _ _ _ _ _ _ g2).trans rfl;have hg3:(w2.setCell ⟨wb,2,none⟩ (.slice ao2 nn2 cc2)).heap[wb]? =_:=rR w2 wb 2 _ _ _ g2;have c23:(w2.setCell ⟨wb,2,none⟩ (.slice ao2 nn2 cc2)).cell? ⟨wb,2,none⟩=some (.slice ao2 nn2 cc2):=(bG _ _ _ _ _ _ hg3).trans rfl;have yY:Hid _:=hg3;have Ar:Hid _:=kM;have HB2:Hid _:=b2;clear g2 kM b2 c2 hg3 l2;go_wp2_with fail;go_ret2;have hso:∀k,k≠wb→(w2.setCell ⟨wb,2,none⟩ (.slice ao2 nn2 cc2)).heap[k]? =w2.heap[k]? :=fun k hk=>AQ _ _ _ _ (fun e=>hk e);refine⟨⟨_,rfl⟩,iK.of (p:=yJ wb) (v:=.slice ao2 nn2 cc2) (yY.o.trans rfl) (.inr rfl) ?_ (LH H8.o H9.o),?_⟩
 ·exact lD.keep (w:=w2) Ar.o (fun k hk _=>hso k (by omega))
 ·have b1:Below wb w w1:=k1.below (by omega) (fun k hk e=>by omega);have b2:Below wb w1 w2:=⟨HB2.o.os,HB2.o.tape,HB2.o.output,HB2.o.size,fun k hk=>HB2.o.block k (by omega) (fun e=>by have:=B1.ne e;omega)⟩;refine⟨(b1.trans b2).trans ⟨rfl,rfl,rfl,by simp,fun k hk=>hso k (by omega)⟩,fun k hk hn hb=>?_⟩;refine(hso k hn).trans ((HB2.o.block k (by omega) (fun e=>?_)).trans (k1.block k hk hn));obtain⟨cur,hc⟩:=B1.nb e;exact hb cur (0,0) ((k1.block k hk hn).symm.trans hc)
def G7 (p:fO):ByteArray:=strOfNums (oD p)
theorem JV(h:p.Ok):∀x∈oD p,0≤x∧x<256:=by
 obtain⟨h1,h2,h3,h4⟩:=h;intro x hx;unfold oD at hx;simp only[nM]at hx;rcases hx with hx|hx|hx|hx|hx
 ·split at hx<;>simp at hx;omega
 ·split at hx<;>simp at hx;omega
 ·split at hx<;>simp at hx;omega
 ·split at hx
  ·rcases nM.1 hx with hx|hx
   ·simp at hx;omega
   ·exact zo (by omega) x hx
  ·simp at hx
 ·split at hx
  ·rcases nM.1 hx with hx|hx
   ·simp at hx;omega
   ·exact zo (by omega) x hx
  ·simp at hx
theorem o_(n:Int):(jB n).length≤2:=by unfold jB;split<;>simp
theorem Dz(p:fO):(oD p).length≤14:=by
 unfold oD;simp only[fU];have e:∀(c:Prop) [Decidable c] (l:List Int),(if c then l else[]).length≤l.length:=by intro c _ l;split<;>simp
 have a1:=e (p.b=true) [59,49];have a2:=e (p.u=true) [59,52];have a3:=e (p.t=true) [59,55];have a4:=e (p.f≠0) ([59,51]++jB (p.f-1));have a5:=e (p.k≠0) ([59,52]++jB (p.k-1));have b1:=o_ (p.f-1);have b2:=o_ (p.k-1);simp only[fU,fE,eP]at a1 a2 a3 a4 a5;omega
theorem L_(h:p.Ok):bl (G7 p)=oD p:=LF _ (JV h)
theorem Nn(p:fO):(G7 p).size≤14:=by unfold G7;rw[DK];exact Dz p
theorem QZ(p:fO)(hp:p.Ok)(w:World):Calls prog 235 #[.agg (aW p)] w fun e w'=>(∃U:ByteArray,e= .returned (.string U)∧bl U=oD p)∧Below w.heap.size w w':=by
 obtain⟨b,u,t,f,k⟩:=p;obtain⟨h1,h2,h3,h4⟩:=hp;dsimp only at h1 h2 h3 h4;have lf:∀w:World,f≠0→Calls prog 149 #[.int .i64 (f-1)] w fun e w'=>e= .returned (.string (tK (f-1)))∧w'=w:=fun w hf=>by have:=uS (f-1).toNat (by omega) w;rwa[show(((f-1).toNat:Nat):Int)=f-1 by omega]at this
 have lk:∀w:World,k≠0→Calls prog 149 #[.int .i64 (k-1)] w fun e w'=>e= .returned (.string (tK (k-1)))∧w'=w:=fun w hf=>by have:=uS (k-1).toNat (by omega) w;rwa[show(((k-1).toNat:Nat):Int)=k-1 by omega]at this
 have zf:=oJ (f-1);have zk:=oJ (k-1);have vf:IntKind.i64.wrap (f-1)=f-1:=bD _ (by omega);have vk:IntKind.i64.wrap (k-1)=k-1:=bD _ (by omega);have Df:Hid (f≠0→bl (tK (f-1))=jB (f-1)):=fun h=>vM (by omega);have Dk:Hid (k≠0→bl (tK (k-1))=jB (k-1)):=fun h=>vM (by omega);have E1:Hid (bl ({data:=#[59,49]}:ByteArray)=[59,49]):=rfl;have E2:Hid (bl ({data:=#[59,52]}:ByteArray)=[59,52]):=rfl;have E3:Hid (bl ({data:=#[59,55]}:ByteArray)=[59,55]):=rfl;have E4:Hid (bl ({data:=#[59,51]}:ByteArray)=[59,51]):=rfl;have E0:Hid (bl ({data:=#[]}:ByteArray)=[]):=rfl;have BW:Hid (∀o,Below w.heap.size w (w.alloc o)):=fun o=>(dU _ _).alloc (bN _) _;rw[show aW ⟨b,u,t,f,k⟩= #[.bool b,.bool u,.bool t,.int .i64 f,.int .i64 k] from rfl];generalize tK (f-1)=akA at*;generalize tK (k-1)=KS at*;by_cases hf:f=0
 ·by_cases hk:k=0
  ·subst hf hk;clear lf lk;cases b<;>cases u<;>cases t
   all_goals
    go_enter func235,ntmps235;go_wp2_with fail;go_ret;exact⟨⟨_,rfl,rfl⟩,BW.o _⟩
  ·subst hf;have hk':(k != 0)=true:=by simpa using hk
   have lk:=fun w=>lk w hk;clear lf;cases b<;>cases u<;>cases t
   all_goals
    go_enter func235,ntmps235;go_wp2_with (go_at_call 149;refine(lk _).mono ?_;rintro e w1 ⟨rfl,hw1⟩;have hw2:=hw1.symm;subst hw2);go_ret;exact⟨⟨_,rfl,by simp only[aL,E0.o,E1.o,E2.o,E3.o,Dk.o hk,oD,ne_eq,hk,not_false_eq_true,not_true_eq_false,if_true,ou,Bool.false_eq_true,mP,f_]⟩,BW.o _⟩
 ·have hf':(f != 0)=true:=by simpa using hf
  have lf:=fun w=>lf w hf;by_cases hk:k=0
  ·subst hk;clear lk;cases b<;>cases u<;>cases t
   all_goals
    go_enter func235,ntmps235;go_wp2_with (go_at_call 149;refine(lf _).mono ?_;rintro e w1 ⟨rfl,hw1⟩;have hw2:=hw1.symm;subst hw2);go_ret;exact⟨⟨_,rfl,by simp only[aL,E0.o,E1.o,E2.o,E3.o,E4.o,Df.o hf,oD,ne_eq,hf,not_false_eq_true,not_true_eq_false,if_true,ou,Bool.false_eq_true,mP,gp,f_]⟩,BW.o _⟩
  ·have hk':(k != 0)=true:=by simpa using hk
   have lk:=fun w=>lk w hk;cases b<;>cases u<;>cases t
   all_goals
    go_enter func235,ntmps235;go_wp2_with (first|(go_at_call 149;refine(lf _).mono ?_;rintro e w1 ⟨rfl,hw1⟩;have hw2:=hw1.symm;subst hw2)|(go_at_call 149;refine(lk _).mono ?_;rintro e w1 ⟨rfl,hw1⟩;have hw2:=hw1.symm;subst hw2));go_ret;exact⟨⟨_,rfl,by simp only[aL,E0.o,E1.o,E2.o,E3.o,E4.o,Df.o hf,Dk.o hk,oD,ne_eq,hf,hk,not_false_eq_true,if_true,ou,Bool.false_eq_true,mP,f_]⟩,BW.o _⟩
theorem UZ(p:fO)(hp:p.Ok)(w:World):Calls prog 235 #[.agg (aW p)] w fun e w'=>e= .returned (.string (G7 p))∧Below w.heap.size w w':=by refine(QZ p hp w).mono ?_;rintro e w' ⟨⟨U,rfl,h1⟩,h2⟩;exact⟨by rw[Ex (h1.trans (L_ hp).symm)],h2⟩
end Go.Proofs.YtheibfffilomcaaGreatDoor
