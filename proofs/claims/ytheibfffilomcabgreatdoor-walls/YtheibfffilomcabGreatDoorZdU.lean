import Derived.Test.YtheibfffilomcabGreatDoorEvnU
import Derived.Test.YtheibfffilomcabGreatDoorQaU
import Derived.Test.YtheibfffilomcabGreatDoorWdU
import Derived.Lib.Builder
import Derived.Lib.AppendStr
import Derived.Lib.UnsafeStr
import Derived.Deep.QuietTactic
import Derived.BigQuiet
import Derived.Test.YtheibfffilomcabGreatDoorCcU
set_option linter.all false
set_option maxRecDepth 100000
set_option maxHeartbeats 1000000
namespace Go.Proofs.YtheibfffilomcabGreatDoor
open Go.RowKit Go.Proofs.Tryz
variable {w w':World} {wb k base tb:Nat} {v:Value} {L:List Int} {x:WS} {n:Int} {p:fO}
def DI (tb:Nat) (p v:Value) (q:fO):List Value:=[.pointer (some ⟨tb,0,none⟩),p,v,.bool q.b,.bool q.u,.bool q.t,.int .i64 q.f,.int .i64 q.k]
def iL (w:World) (base:Nat) (v:Value) (L:List Int):Prop:=w.ownsRow base 5 1 v L.length (L.map (Value.int .u8))
theorem FR(s:ByteArray):Lib.strCells s=(bl s).map (Value.int .u8):=by unfold Lib.strCells bl;rw[List.map_map];rfl
def uZ (wb:Nat):Value:=.pointer (some ⟨wb,1,none⟩)
structure eB (w:World) (wb tb:Nat) (x:WS):Prop where
 ex:∃p v,w.heap[wb]? =some (.cells (DI tb p v x.pen).toArray 112 (0,0))∧(p= .pointer none∨p=uZ wb)∧iL w (wb+1) v x.tx
 TE:∀i∈x.tx,0≤i∧i<256
theorem eB.lt{w:World}{wb tb:Nat}{x:WS}(h:eB w wb tb x):wb<w.heap.size:=by obtain⟨p,v,h,_⟩:=h.ex;exact bM h
theorem iL.keep(h:iL w base v L)(hb:∀k,base≤k→k<w.heap.size→w'.heap[k]? =w.heap[k]?):iL w' base v L:=by
 obtain⟨h1,h2⟩:=h;refine⟨h1,?_⟩;rcases h2 with h2|⟨g,cap,cur,hv,hg,hk,r⟩
 ·exact .inl h2
 ·exact .inr ⟨g,cap,cur,hv,hg,(hb g hg (bM hk)).trans hk,r⟩
theorem eB.keep(h:eB w wb tb x)(c:Below w.heap.size w w'):eB w' wb tb x:=by obtain⟨p,v,h1,h2,h3⟩:=h.ex;exact⟨⟨p,v,(c.block _ (bM h1)).trans h1,h2,h3.keep (fun k _ hk=>c.block k hk)⟩,h.TE⟩
structure Wk (wb:Nat) (w w':World):Prop where
 b:Below wb w w'
 n:∀k,k<w.heap.size→k≠wb→(∀cs fr,w.heap[k]? ≠some (.cells cs 5 fr))→w'.heap[k]? =w.heap[k]?
theorem Wk.trans{u v:World}(h:Wk wb w u)(k:Wk wb u v):Wk wb w v:=
 ⟨h.b.trans k.b,fun i hi hn hb=>by
   have e:=h.n i hi hn hb
   exact(k.n i (aH hi h.b.size) hn (fun cs fr=>by rw[e];exact hb cs fr)).trans e⟩
theorem Wk.of_below(h:Below w.heap.size w w')(hl:wb≤w.heap.size):Wk wb w w':=⟨h.mono hl,fun k hk _ _=>h.block k hk⟩
theorem Wk.refl(wb:Nat)(w:World):Wk wb w w:=⟨dF _ _,fun _ _ _ _=>rfl⟩
theorem Wk.at(h:Wk wb w w'){cs:Array Value}{t:TypeId}{fr:Nat × Nat}(hk:w.heap[k]? =some (.cells cs t fr))(hn:k≠wb)(ht:t≠5):w'.heap[k]? =some (.cells cs t fr):=
 (h.n k (bM hk) hn (fun cs' fr' e=>by rw[hk]at e;injection e with e;injection e with _ e2 _;exact ht e2)).trans hk
theorem iL.nb(h:iL w base v L)(hk:v.ownBlock=some k):∃cur,w.heap[k]? =some (.cells cur 5 (0,0)):=by
 rcases h.2 with⟨rfl,_⟩|⟨g,cap,cur,rfl,_,hg,_⟩
 ·simp[Value.ownBlock]at hk
 ·simp only[Value.ownBlock,sJ]at hk;subst hk;exact⟨cur,hg⟩
structure Gr (v:Value) (w w':World):Prop where
 os:w'.os=w.os
 tape:w'.tape=w.tape
 output:w'.output=w.output
 size:w.heap.size≤w'.heap.size
 block:∀k,k<w.heap.size→v.ownBlock≠some k→w'.heap[k]? =w.heap[k]?
theorem OC:(prog.info? 5).map (fun i=>(i.zero,i.size,i.bytes))=some (some (.int .u8 0),1,1):=by kernel_rfl
theorem U1:(prog.info? 110).map (·.size)=some 2:=by kernel_rfl
theorem U0:∃j,prog.info? 110=some j∧j.size≠0:=by
 have h:=U1;cases e:prog.info? 110 with
 |none=>rw[e]at h;cases h
 |some j=>rw[e]at h;simp at h;exact⟨j,rfl,by omega⟩
theorem sQ(wb tb:Nat)(p v:Value)(q:fO)(w:World)(h:w.heap[wb]? =some (.cells (DI tb p v q).toArray 112 (0,0)))(hp:p= .pointer none∨p=uZ wb):
 Calls prog 144 #[.pointer (some ⟨wb,1,none⟩)] w fun e w'=>e= .returned (.tuple #[])∧w'.heap[wb]? =some (.cells (DI tb (uZ wb) v q).toArray 112 (0,0))∧Ch (· =wb) w w':=by
 have c1:w.cell? ⟨wb,1,none⟩=some p:=(dJ _ _ _ _ _ _ h).trans rfl;have f1:w.frozen? ⟨wb,1,none⟩=false:=ou _ _ _ _ _ h;have hsh:w.shape? wb=some (112,8):=by simp[World.shape?,h,DI]
 obtain⟨j,hj,hj0⟩:=U0;have hu1:(convert 107 79 (.pointer (some ⟨wb,1,none⟩))).run prog w= .ok (.pointer (some ⟨wb,1,none⟩)) w:=Lib.run_to_unsafe w ⟨wb,1,none⟩ (by kernel_rfl) (by kernel_rfl) hj hj0 hsh (show 1<8 by decide);have hu2:(convert 79 107 (.pointer (some ⟨wb,1,none⟩))).run prog w= .ok (.pointer (some ⟨wb,1,none⟩)) w:=Lib.run_from_unsafe w ⟨wb,1,none⟩ (by kernel_rfl) (by kernel_rfl) hj hsh (by kernel_rfl);have hne:∀u:World,(binOp .neq 107 (.pointer (some ⟨wb,1,none⟩)) (.pointer (some ⟨wb,1,none⟩))).run prog u= .ok (.bool false) u:=fun u=>Lib.run_neq_ptr_same u ⟨wb,1,none⟩ (by kernel_rfl) hj;have afq:∀u:World,(callFunc 196 #[.pointer (some ⟨wb,1,none⟩)]).run prog u= .ok (.value (.pointer (some ⟨wb,1,none⟩))) u:=by intro u;kernel_rfl
 have H:Hid _:=h;have hcs:∀x:Value,(w.setCell ⟨wb,1,none⟩ x).cell? ⟨wb,1,none⟩=some x:=fun x=>by rw[dJ _ _ _ _ _ _ (wS w wb 1 _ _ _ h)];rfl
 clear h hj hj0 hsh;rcases hp with rfl|rfl
 ·go_enter func144,ntmps144;go_wp2_with fail;go_end0;refine⟨rfl,?_,(Ch.refl _ _).set _ _ _ (fun _=>rfl)⟩;rw[wS w wb 1 _ _ _ H.o];rfl
 ·unfold uZ at*;go_enter func144,ntmps144;go_wp2_with fail;go_end0;exact⟨rfl,H.o,Ch.refl _ _⟩
theorem eB.of{p:Value}(h:w.heap[wb]? =some (.cells (DI tb p v x.pen).toArray 112 (0,0)))(hp:p= .pointer none∨p=uZ wb)(hb:iL w (wb+1) v x.tx)(h8:∀i∈x.tx,0≤i∧i<256):eB w wb tb x:=⟨⟨p,v,h,hp,hb⟩,h8⟩
theorem JO{l:List Int}(h:∀i∈x.tx,0≤i∧i<256)(k:∀i∈l,0≤i∧i<256):∀i∈(x.put l).tx,0≤i∧i<256:=by
 intro i hi;rcases oq.1 (show i∈x.tx++l from hi)with e|e
 ·exact h i e
 ·exact k i e
theorem TA(s:ByteArray):∀i∈bl s,0≤i∧i<256:=by intro i hi;unfold bl at hi;obtain⟨b,_,rfl⟩:=List.mem_map.1 hi;have:=b.toNat_lt;omega
theorem iL.ne(h:iL w (wb+1) v L)(hk:v.ownBlock=some k):wb<k:=((Jn h) k hk).1
theorem av(wb tb:Nat)(x:WS)(s:ByteArray)(w:World)(h:eB w wb tb x)(hx:x.tx.length≤900000000)(hs:s.size≤100000):
 Calls prog 94 #[.pointer (some ⟨wb,1,none⟩),.string s] w fun e w'=>(∃v,e= .returned v)∧eB w' wb tb (x.put (bl s))∧Wk wb w w':=by
 obtain⟨p,v,h1,h2,h3⟩:=h.ex;have l1:=sQ wb tb p v x.pen w h1 h2;have HB:Hid (iL w (wb+1) v x.tx):=h3;have H8:Hid (∀i∈x.tx,0≤i∧i<256):=h.TE;have hlt:=bM h1;clear h h1 h2 h3;go_enter func94,ntmps94;go_wp2_with fail;refine l1.mono ?_;rintro e w1 ⟨rfl,g1,k1⟩;have c2:w1.cell? ⟨wb,2,none⟩=some v:=(dJ _ _ _ _ _ _ g1).trans rfl;have B1:iL w1 (wb+1) v x.tx:=HB.o.keep (fun k hk hks=>k1.block k hks (by omega));obtain⟨i0,hi,hz0,hz1,hz2⟩:=info_parts OC;have HG:Hid _:=g1;have hsz:=k1.size;clear g1 l1;go_wp2_with (at_builtin;refine Lib.wpList_append_own_string w1 rfl (.tmp 12) (.tmp 13) 108 9 rfl (wb+1) 5 i0 (by kernel_rfl) (by kernel_rfl) hi hz0 hz1 hz2 v _ _ rfl B1 s rfl (by unfold maxLen;omega) (by omega) (by omega) ?_);intro v2 w2 kU gr2 _;obtain⟨ao,nn,cc,rfl⟩:∃ao nn cc,v2= .slice ao nn cc:=by rcases kU.2 with⟨rfl,_⟩|⟨g,cap,cur,rfl,_⟩<;>exact⟨_,_,_,rfl⟩
 have g2:w2.heap[wb]? =some (.cells (DI tb (uZ wb) v x.pen).toArray 112 (0,0)):=(gr2.block wb (bM HG.o) (fun e=>by have:=B1.ne e.symm;omega)).trans HG.o;have f2:w2.frozen? ⟨wb,2,none⟩=false:=ou _ _ _ _ _ g2;have c22:w2.cell? ⟨wb,2,none⟩=some v:=(dJ _ _ _ _ _ _ g2).trans rfl;have HG2:Hid _:=g2;have HO2:Hid _:=kU;have V4:Hid _:=gr2;clear g2 kU gr2 c2;go_wp2_with fail;go_ret2;have hg3:(w2.setCell ⟨wb,2,none⟩ (.slice ao nn cc)).heap[wb]? =_:=wS w2 wb 2 _ _ _ HG2.o;have hso:∀k,k≠wb→(w2.setCell ⟨wb,2,none⟩ (.slice ao nn cc)).heap[k]? =w2.heap[k]? :=fun k hk=>yn _ _ _ _ (fun e=>hk e);refine⟨⟨_,rfl⟩,eB.of (p:=uZ wb) (v:=.slice ao nn cc) (hg3.trans rfl) (.inr rfl) ?_ (JO H8.o (TA s)),?_⟩
 ·have e:(x.put (bl s)).tx=x.tx++bl s:=rfl;have o3:=HO2.o;rw[FR, ←List.map_append]at o3;rw[e];refine iL.keep (w:=w2) ?_ (fun k hk _=>hso k (by omega));unfold iL;rw[lQ,oG];exact o3
 ·have b1:Below wb w w1:=k1.below (by omega) (fun k hk e=>by omega);have b2:Below wb w1 w2:=⟨V4.o.os,V4.o.tape,V4.o.output,V4.o.size,fun k hk=>V4.o.block k (by omega) (fun e=>by have:=B1.ne e.symm;omega)⟩;refine⟨(b1.trans b2).trans ⟨rfl,rfl,rfl,by simp,fun k hk=>hso k (by omega)⟩,fun k hk hn hb=>?_⟩;refine(hso k hn).trans ((V4.o.block k (by omega) (fun e=>?_)).trans (k1.block k hk hn));obtain⟨cur,hc⟩:=B1.nb e.symm;exact hb cur (0,0) ((k1.block k hk hn).symm.trans hc)

theorem NZ(s:ByteArray)(a b:Nat):bl (s.extract a b)=((bl s).drop a).take (b-a):=by unfold bl;rw[ByteArray.data_extract,Array.toList_extract,List.extract_eq_take_drop,List.map_take,List.map_drop]
def XE:ByteArray:={data:=#[48,49,50,51,52,53,54,55,56,57,97,98,99,100,101,102,103,104,105,106,107,108,109,110,111,112,113,114,115,116,117,118,119,120,121,122]}
def SK:ByteArray:={data:=#[48,48,48,49,48,50,48,51,48,52,48,53,48,54,48,55,48,56,48,57,49,48,49,49,49,50,49,51,49,52,49,53,49,54,49,55,49,56,49,57,50,48,50,49,50,50,50,51,50,52,50,53,50,54,50,55,50,56,50,57,51,48,51,49,51,50,51,51,51,52,51,53,51,54,51,55,51,56,51,57,52,48,52,49,52,50,52,51,52,52,52,53,52,54,52,55,52,56,52,57,53,48,53,49,53,50,53,51,53,52,53,53,53,54,53,55,53,56,53,57,54,48,54,49,54,50,54,51,54,52,54,53,54,54,54,55,54,56,54,57,55,48,55,49,55,50,55,51,55,52,55,53,55,54,55,55,55,56,55,57,56,48,56,49,56,50,56,51,56,52,56,53,56,54,56,55,56,56,56,57,57,48,57,49,57,50,57,51,57,52,57,53,57,54,57,55,57,56,57,57]}
theorem KU:∀n:Nat,n<10→((bl XE).drop n).take (n+1-n)=lg (n:Int):=by decide+kernel
theorem QS:∀n:Nat,n<100→10≤n→((bl SK).drop (n*2)).take (n*2+2-n*2)=lg (n:Int):=by decide+kernel
theorem Mg(n:Nat)(hn:n<100)(w:World):Calls prog 230 #[.int .i64 (n:Int)] w fun e w'=>(∃U:ByteArray,e= .returned (.string U)∧bl U=lg (n:Int))∧w'=w:=by
 by_cases h:n<10
 ·have hi:(n:Int)<10:=by omega
  have v1:IntKind.i64.wrap ((n:Int)+1)=(n:Int)+1:=bV _ (by omega);have i2:(n:Int)+1≤36:=by omega
  go_enter func230,ntmps230;go_wp2_with fail;go_ret;exact⟨⟨_,rfl,(NZ XE n (n+1)).trans (KU n h)⟩,rfl⟩
 ·have hi:¬(n:Int)<10:=by omega
  have v1:IntKind.i64.wrap ((n:Int)*2)=(n:Int)*2:=bV _ (by omega);have v2:IntKind.i64.wrap ((n:Int)*2+2)=(n:Int)*2+2:=bV _ (by omega);have i2:(n:Int)*2+2≤200:=by omega
  go_enter func230,ntmps230;go_wp2_with fail;go_ret;exact⟨⟨_,rfl,(NZ SK (n*2) (n*2+2)).trans (QS n hn (by omega))⟩,rfl⟩
def pJ (n:Int):ByteArray:=strOfNums (lg n)
theorem vI(h:0≤n∧n<100):∀x∈lg n,0≤x∧x<256:=by
 intro x hx;unfold lg at hx;split at hx
 ·simp at hx;omega
 ·simp at hx;rcases hx with rfl|rfl<;>omega
theorem rO(h:0≤n∧n<100):bl (pJ n)=lg n:=JN _ (vI h)
theorem j6(n:Int):(pJ n).size≤2:=by unfold pJ;rw[Bl];unfold lg;split<;>simp
theorem Ci{a b:ByteArray}(h:bl a=bl b):a=b:=by
 apply ByteArray.ext;apply Array.toList_inj.1;unfold bl at h
 exact List.map_inj_right (fun x y e=>by
  have:x.toNat=y.toNat:=by omega
  exact UInt8.toNat_inj.1 this) |>.1 h
theorem Px(n:Nat)(hn:n<100)(w:World):Calls prog 230 #[.int .i64 (n:Int)] w fun e w'=>e= .returned (.string (pJ (n:Int)))∧w'=w:=by refine(Mg n hn w).mono ?_;rintro e w' ⟨⟨U,rfl,h1⟩,h2⟩;exact⟨by rw[Ci (h1.trans (rO (by omega)).symm)],h2⟩
theorem qQ(n:Nat)(hn:n<100)(w:World):Calls prog 93 #[.int .i64 (n:Int)] w fun e w'=>e= .returned (.string (pJ (n:Int)))∧w'=w:=by
 have l1:=Px n hn w;have i0:(0:Int)≤(n:Int):=by omega
 have i1:(n:Int)<100:=by omega
 generalize pJ (n:Int)=D at*;have l2:Calls prog 195 #[.int .i64 (n:Int),.int .i64 10] w fun e w'=>e= .returned (.string D)∧w'=w:=by go_enter func195,ntmps195;go_wp2_with (go_at_call 230;refine l1.mono ?_;rintro e w1 ⟨rfl,hw1⟩;have hw2:=hw1.symm;subst hw2);go_ret;exact⟨rfl,rfl⟩
 have l3:Calls prog 143 #[.int .i64 (n:Int)] w fun e w'=>e= .returned (.string D)∧w'=w:=by go_enter func143,ntmps143;go_wp2_with (go_at_call 195;refine l2.mono ?_;rintro e w1 ⟨rfl,hw1⟩;have hw2:=hw1.symm;subst hw2);go_ret;exact⟨rfl,rfl⟩
 go_enter func93,ntmps93;go_wp2_with (go_at_call 143;refine l3.mono ?_;rintro e w1 ⟨rfl,hw1⟩;have hw2:=hw1.symm;subst hw2);go_ret;exact⟨rfl,rfl⟩
def oP (a b:Int):ByteArray:=pJ (a+1)++{data:=#[59]}++pJ (b+1)
theorem EW{a b:Int}(ha:0≤a∧a<99)(hb:0≤b∧b<99):bl (oP a b)=zh a b:=by unfold oP zh;rw[iy,iy,rO (by omega),rO (by omega),show bl ({data:=#[59]}:ByteArray)=[59] by kernel_rfl];simp
theorem zl(a b:Int):(oP a b).size≤5:=by have h1:=j6 (a+1);have h2:=j6 (b+1);have h3:({data:=#[59]}:ByteArray).size=1:=rfl;unfold oP;rw[yg,yg,h3];omega
theorem EX(a b:Nat)(ha:a<99)(hb:b<99)(w:World):Calls prog 95 #[.int .i64 (a:Int),.int .i64 (b:Int)] w fun e w'=>e= .returned (.string (oP (a:Int) (b:Int)))∧w'=w:=by have l1:=qQ (a+1) (by omega) w;have l2:=qQ (b+1) (by omega) w;have v1:IntKind.i64.wrap ((a:Int)+1)=(a:Int)+1:=bV _ (by omega);have v2:IntKind.i64.wrap ((b:Int)+1)=(b:Int)+1:=bV _ (by omega);rw[show(((a+1:Nat)):Int)=(a:Int)+1 by omega]at l1;rw[show(((b+1:Nat)):Int)=(b:Int)+1 by omega]at l2;have z1:=j6 ((a:Int)+1);have z2:=j6 ((b:Int)+1);unfold oP;generalize pJ ((a:Int)+1)=A at*;generalize pJ ((b:Int)+1)=B at*;go_enter func95,ntmps95;go_wp2_with fail;refine l1.mono ?_;rintro e w1 ⟨rfl,hw1⟩;have hw2:=hw1.symm;subst hw2;go_wp2_with fail;refine l2.mono ?_;rintro e w1 ⟨rfl,hw1⟩;have hw2:=hw1.symm;subst hw2;go_wp2_with fail;go_ret;exact⟨rfl,rfl⟩
theorem dM(wb tb:Nat)(x:WS)(s:ByteArray)(w:World)(h:eB w wb tb x)(hx:x.tx.length≤800000000)(hs:s.size≤90000):
 Calls prog 89 #[.pointer (some ⟨wb,0,none⟩),.string s] w fun e w'=>e= .returned (.tuple #[])∧eB w' wb tb (x.seq (bl s))∧Wk wb w w':=by
 have l1:=av wb tb x {data:=#[27,91]} w h (by omega) (by decide);go_enter func89,ntmps89;go_wp2_with fail;refine l1.mono ?_;rintro e w1 ⟨⟨v1,rfl⟩,h1,b1⟩;have l2:=av wb tb _ s w1 h1 (by show(x.tx++_).length≤_;rw[lQ,oG];show x.tx.length+2≤900000000;omega) (by omega);go_wp2_with fail;refine l2.mono ?_;rintro e w2 ⟨⟨v2,rfl⟩,h2,b2⟩;go_wp2_with fail;go_end0;refine⟨rfl,?_,b1.trans b2⟩;have e:(x.put (bl {data:=#[27,91]})).put (bl s)=x.seq (bl s):=by show(⟨x.tx++bl {data:=#[27,91]}++bl s,x.pen⟩:WS)=⟨x.tx++([27,91]++bl s),x.pen⟩;rw[show bl ({data:=#[27,91]}:ByteArray)=[27,91] by kernel_rfl,sF]
 rw[←e];exact h2
theorem qV(wb tb:Nat)(x:WS)(r c:Nat)(hr:r<99)(hc:c<99)(w:World)(h:eB w wb tb x)(hx:x.tx.length≤800000000):
 Calls prog 146 #[.pointer (some ⟨wb,0,none⟩),.int .i64 (r:Int),.int .i64 (c:Int)] w fun e w'=>e= .returned (.tuple #[])∧eB w' wb tb (x.place r c)∧Wk wb w w':=by
 have l1:=EX r c hr hc w;have zp:=zl (r:Int) (c:Int);have l2:=dM wb tb x (oP (r:Int) (c:Int)++{data:=#[72]}) w h hx (by rw[yg];show(oP (r:Int) (c:Int)).size+1≤_;omega);have e:x.seq (bl (oP (r:Int) (c:Int)++{data:=#[72]}))=x.place r c:=by unfold WS.place;rw[iy,EW (by omega) (by omega),show bl ({data:=#[72]}:ByteArray)=[72] by kernel_rfl]
 rw[e]at l2;clear e h;generalize oP (r:Int) (c:Int)=D at*;go_enter func146,ntmps146;go_wp2_with fail;refine l1.mono ?_;rintro e w1 ⟨rfl,hw1⟩;have hw2:=hw1.symm;subst hw2;go_wp2_with fail;refine l2.mono ?_;rintro e w2 ⟨rfl,h2,b2⟩;go_wp2_with fail;go_end0;exact⟨rfl,h2,b2⟩
theorem vB{ops:Array Oper}{rest:List Oper}{o:Oper}{a:Act}{Q:Exit→Act→World→Prop}(u:World)(hgd:o.guard=none)(s x:Operand)(ho:o.op= .call {callee:=.builtin .append,args:=#[s,x],argTypes:=#[108,108]})(base:Nat)(v:Value)(L ys:List Int)(hs:a.eval s=v)(own:iL u base v L)(n:Nat)(hn:ys.length=n)(g:Nat)(hg:g=u.heap.size)(hx:a.eval x= .slice (some ⟨g,0,none⟩) n n)(cs:Array Value)(hcs:cs=(ys.map (Value.int .u8)).toArray)(hL:L.length≤1000000000)(hy:ys.length≤4)(hy0:1≤ys.length)(hb:base≤u.heap.size)(h:∀v' w',iL w' base v' (L++ys)→Gr v u w'→wpList prog ops Q rest (a.put o.dst v') w'):wpList prog ops Q (o::rest) a (u.alloc (.cells cs 5)):=by
 obtain⟨i0,hi,hz0,hz1,hz2⟩:=info_parts OC;subst hg hcs;refine wpList_append_own _ hgd s x 108 ho base 5 i0 (.int .u8 0) 1 1 (by kernel_rfl) hi hz0 hz1 hz2 rfl (by decide) v _ _ hs (M5 own _) ⟨u.heap.size,0,none⟩ n n (ys.map (Value.int .u8)) hx (by simp[hn]) ?_ ?_ ?_ ?_ ?_ ?_
 ·intro j z hj;have hadd:(⟨u.heap.size,0,none⟩:Addr).add j=⟨u.heap.size,0+j,none⟩:=by unfold Addr.add;split<;>simp_all
  rw[hadd,dJ _ _ _ _ _ _ (bJ u _),lG];simpa using hj
 ·intro z hz;obtain⟨y,_,rfl⟩:=List.mem_map.1 hz;rfl
 ·unfold maxLen;omega
 ·omega
 ·simp;omega
 ·intro v' w' hown hgrow _;refine h v' w' ?_ ?_
  ·unfold iL;rw[List.map_append,lQ,hn];exact hown
  ·have hz:u.heap.size≤w'.heap.size:=by have:=hgrow.size;simp at this;omega
   exact⟨hgrow.os,hgrow.tape,hgrow.output,hz,fun k hk hn=>(hgrow.block k (by simp;omega) (fun e=>hn e.symm)).trans (h_ _ _ _ hk)⟩
theorem Tv(base:Nat)(v:Value)(L:List Int)(c:Int)(h0:128≤c)(h1:c<2048)(w:World)(own:iL w base v L)(hL:L.length≤1000000000)(hb:base≤w.heap.size):
 Calls prog 247 #[v,.int .i32 c] w fun e w'=>∃v',e= .returned v'∧iL w' base v' (L++[192+c / 64,128+c % 64])∧Gr v w w':=by
 have HO:Hid _:=own;clear own;go_enter func247,ntmps247;go_wp2_with (at_builtin;refine vB w rfl (.tmp 14) (.tmp 23) rfl base v L [192+c / 64,128+c % 64] rfl HO.o 2 rfl w.heap.size rfl rfl _ rfl hL (show 2≤4 by decide) (show 1≤2 by decide) hb ?_);intro v2 w2 kU b2;have H2:Hid _:=kU;have HB:Hid _:=b2;clear kU b2;go_wp2_with fail;go_ret;exact⟨v2,rfl,H2.o,HB.o⟩
theorem QF(base:Nat)(v:Value)(L:List Int)(c:Int)(h0:2048≤c)(h1:c<55296)(w:World)(own:iL w base v L)(hL:L.length≤1000000000)(hb:base≤w.heap.size):
 Calls prog 247 #[v,.int .i32 c] w fun e w'=>∃v',e= .returned v'∧iL w' base v' (L++[224+c / 4096,128+c / 64 % 64,128+c % 64])∧Gr v w w':=by
 have HO:Hid _:=own;clear own;go_enter func247,ntmps247;go_wp2_with (at_builtin;refine vB w rfl (.tmp 34) (.tmp 48) rfl base v L [224+c / 4096,128+c / 64 % 64,128+c % 64] rfl HO.o 3 rfl w.heap.size rfl rfl _ rfl hL (show 3≤4 by decide) (show 1≤3 by decide) hb ?_);intro v2 w2 kU b2;have H2:Hid _:=kU;have HB:Hid _:=b2;clear kU b2;go_wp2_with fail;go_ret;exact⟨v2,rfl,H2.o,HB.o⟩
theorem QG(base:Nat)(v:Value)(L:List Int)(c:Int)(h0:57344≤c)(h1:c<65536)(w:World)(own:iL w base v L)(hL:L.length≤1000000000)(hb:base≤w.heap.size):
 Calls prog 247 #[v,.int .i32 c] w fun e w'=>∃v',e= .returned v'∧iL w' base v' (L++[224+c / 4096,128+c / 64 % 64,128+c % 64])∧Gr v w w':=by
 have HO:Hid _:=own;clear own;go_enter func247,ntmps247;go_wp2_with (at_builtin;refine vB w rfl (.tmp 34) (.tmp 48) rfl base v L [224+c / 4096,128+c / 64 % 64,128+c % 64] rfl HO.o 3 rfl w.heap.size rfl rfl _ rfl hL (show 3≤4 by decide) (show 1≤3 by decide) hb ?_);intro v2 w2 kU b2;have H2:Hid _:=kU;have HB:Hid _:=b2;clear kU b2;go_wp2_with fail;go_ret;exact⟨v2,rfl,H2.o,HB.o⟩
theorem Tw(base:Nat)(v:Value)(L:List Int)(c:Int)(h0:65536≤c)(h1:c≤1114111)(w:World)(own:iL w base v L)(hL:L.length≤1000000000)(hb:base≤w.heap.size):
 Calls prog 247 #[v,.int .i32 c] w fun e w'=>∃v',e= .returned v'∧iL w' base v' (L++[240+c / 262144,128+c / 4096 % 64,128+c / 64 % 64,128+c % 64])∧Gr v w w':=by
 have HO:Hid _:=own;clear own;go_enter func247,ntmps247;go_wp2_with (at_builtin;refine vB w rfl (.tmp 57) (.tmp 76) rfl base v L [240+c / 262144,128+c / 4096 % 64,128+c / 64 % 64,128+c % 64] rfl HO.o 4 rfl w.heap.size rfl rfl _ rfl hL (show 4≤4 by decide) (show 1≤4 by decide) hb ?_);intro v2 w2 kU b2;have H2:Hid _:=kU;have HB:Hid _:=b2;clear kU b2;go_wp2_with fail;go_ret;exact⟨v2,rfl,H2.o,HB.o⟩
theorem NQ(base:Nat)(v:Value)(L:List Int)(c:Int)(h0:128≤c)(hc:Ce c)(w:World)(own:iL w base v L)(hL:L.length≤1000000000)(hb:base≤w.heap.size):
 Calls prog 247 #[v,.int .i32 c] w fun e w'=>∃v',e= .returned v'∧iL w' base v' (L++rH c)∧Gr v w w':=by
 obtain⟨_,h1,h2⟩:=hc;unfold rH;rw[aG (by omega)];by_cases a2:c<2048
 ·rw[aS a2];exact Tv base v L c h0 a2 w own hL hb
 ·rw[aG a2];by_cases a3:c<65536
  ·rw[aS a3];by_cases a4:c<55296
   ·exact QF base v L c (by omega) a4 w own hL hb
   ·exact QG base v L c (by omega) a3 w own hL hb
  ·rw[aG a3];exact Tw base v L c (by omega) h1 w own hL hb
theorem NR(base:Nat)(v:Value)(L:List Int)(c:Int)(hc:Ce c)(w:World)(own:iL w base v L)(hL:L.length≤1000000000)(hb:base≤w.heap.size):
 Calls prog 241 #[v,.int .i32 c] w fun e w'=>∃v',e= .returned v'∧iL w' base v' (L++rH c)∧Gr v w w':=by
 have hc':=hc;obtain⟨h0,h1,h2⟩:=hc;by_cases a1:c<128
 ·have e:rH c=[c]:=by unfold rH;rw[aS a1]
  rw[e];have HO:Hid _:=own;clear own e hc' h2;have i1:c≤127:=by omega
  go_enter func241,ntmps241;go_wp2_with (at_builtin;refine vB w rfl (.tmp 8) (.tmp 11) rfl base v L [c] rfl HO.o 1 rfl w.heap.size rfl rfl _ rfl hL (show 1≤4 by decide) (show 1≤1 by decide) hb ?_);intro v2 w2 kU b2;have H2:Hid _:=kU;have HB:Hid _:=b2;clear kU b2;go_wp2_with fail;go_ret;exact⟨v2,rfl,H2.o,HB.o⟩
 ·have l1:=NQ base v L c (by omega) hc' w own hL hb;have i1:¬c≤127:=by omega
  clear own hc' h2;generalize rH c=D at*;go_enter func241,ntmps241;go_wp2_with (go_at_call 247;refine l1.mono ?_;rintro e w1 ⟨v',rfl,o1,b1⟩);go_ret;exact⟨v',rfl,o1,b1⟩
theorem Ap(wb tb:Nat)(x:WS)(c:Int)(hc:Ce c)(w:World)(h:eB w wb tb x)(hx:x.tx.length≤900000000):
 Calls prog 229 #[.pointer (some ⟨wb,1,none⟩),.int .i32 c] w fun e w'=>(∃v,e= .returned v)∧eB w' wb tb (x.put (rH c))∧Wk wb w w':=by
 obtain⟨p,v,h1,h2,h3⟩:=h.ex;have H8:Hid (∀i∈x.tx,0≤i∧i<256):=h.TE;have H9:Hid (∀i∈rH c,0≤i∧i<256):=MK c hc.1 (by have:=hc.2.1;omega);have l1:=sQ wb tb p v x.pen w h1 h2;have hlt:=bM h1;obtain⟨ao,nn,cc,rfl⟩:∃ao nn cc,v= .slice ao nn cc:=by rcases h3.2 with⟨rfl,_⟩|⟨g,cap,cur,rfl,_⟩<;>exact⟨_,_,_,rfl⟩
 have hnn:nn≤900000000:=by
  rcases h3.2 with⟨e,_⟩|⟨g,cap,cur,e,_⟩
  ·injection e with _ e2 _;omega
  ·injection e with _ e2 _;omega
 have HB:Hid (iL w (wb+1) (.slice ao nn cc) x.tx):=h3;clear h h1 h2 h3;go_enter func229,ntmps229;go_wp2_with fail;refine l1.mono ?_;rintro e w1 ⟨rfl,g1,k1⟩;have c2:w1.cell? ⟨wb,2,none⟩=some (.slice ao nn cc):=(dJ _ _ _ _ _ _ g1).trans rfl;have B1:iL w1 (wb+1) (.slice ao nn cc) x.tx:=HB.o.keep (fun k hk hks=>k1.block k hks (by omega));have hsz:=k1.size;have l2:=NR (wb+1) (.slice ao nn cc) x.tx c hc w1 B1 (by omega) (by omega);have HG:Hid _:=g1;clear g1 l1;go_wp2_with fail;refine l2.mono ?_;rintro e w2 ⟨v2,rfl,kU,b2⟩;obtain⟨Xz,ZA,XD,rfl⟩:∃ao nn cc,v2= .slice ao nn cc:=by rcases kU.2 with⟨rfl,_⟩|⟨g,cap,cur,rfl,_⟩<;>exact⟨_,_,_,rfl⟩
 have g2:w2.heap[wb]? =some (.cells (DI tb (uZ wb) (.slice ao nn cc) x.pen).toArray 112 (0,0)):=(b2.block wb (by omega) (fun e=>by have:=B1.ne e;omega)).trans HG.o;have f2:w2.frozen? ⟨wb,2,none⟩=false:=ou _ _ _ _ _ g2;have c22:w2.cell? ⟨wb,2,none⟩=some (.slice ao nn cc):=(dJ _ _ _ _ _ _ g2).trans rfl;have hg3:(w2.setCell ⟨wb,2,none⟩ (.slice Xz ZA XD)).heap[wb]? =_:=wS w2 wb 2 _ _ _ g2;have c23:(w2.setCell ⟨wb,2,none⟩ (.slice Xz ZA XD)).cell? ⟨wb,2,none⟩=some (.slice Xz ZA XD):=(dJ _ _ _ _ _ _ hg3).trans rfl;have xL:Hid _:=hg3;have HO2:Hid _:=kU;have HB2:Hid _:=b2;clear g2 kU b2 c2 hg3 l2;go_wp2_with fail;go_ret2;have hso:∀k,k≠wb→(w2.setCell ⟨wb,2,none⟩ (.slice Xz ZA XD)).heap[k]? =w2.heap[k]? :=fun k hk=>yn _ _ _ _ (fun e=>hk e);refine⟨⟨_,rfl⟩,eB.of (p:=uZ wb) (v:=.slice Xz ZA XD) (xL.o.trans rfl) (.inr rfl) ?_ (JO H8.o H9.o),?_⟩
 ·exact iL.keep (w:=w2) HO2.o (fun k hk _=>hso k (by omega))
 ·have b1:Below wb w w1:=k1.below (by omega) (fun k hk e=>by omega);have b2:Below wb w1 w2:=⟨HB2.o.os,HB2.o.tape,HB2.o.output,HB2.o.size,fun k hk=>HB2.o.block k (by omega) (fun e=>by have:=B1.ne e;omega)⟩;refine⟨(b1.trans b2).trans ⟨rfl,rfl,rfl,by simp,fun k hk=>hso k (by omega)⟩,fun k hk hn hb=>?_⟩;refine(hso k hn).trans ((HB2.o.block k (by omega) (fun e=>?_)).trans (k1.block k hk hn));obtain⟨cur,hc⟩:=B1.nb e;exact hb cur (0,0) ((k1.block k hk hn).symm.trans hc)
def EE (p:fO):ByteArray:=strOfNums (nL p)
theorem Hr(h:p.Ok):∀x∈nL p,0≤x∧x<256:=by
 obtain⟨h1,h2,h3,h4⟩:=h;intro x hx;unfold nL at hx;simp only[oq]at hx;rcases hx with hx|hx|hx|hx|hx
 ·split at hx<;>simp at hx;omega
 ·split at hx<;>simp at hx;omega
 ·split at hx<;>simp at hx;omega
 ·split at hx
  ·rcases oq.1 hx with hx|hx
   ·simp at hx;omega
   ·exact vI (by omega) x hx
  ·simp at hx
 ·split at hx
  ·rcases oq.1 hx with hx|hx
   ·simp at hx;omega
   ·exact vI (by omega) x hx
  ·simp at hx
theorem kS(n:Int):(lg n).length≤2:=by unfold lg;split<;>simp
theorem Bh(p:fO):(nL p).length≤14:=by
 unfold nL;simp only[lQ];have e:∀(c:Prop) [Decidable c] (l:List Int),(if c then l else[]).length≤l.length:=by intro c _ l;split<;>simp
 have a1:=e (p.b=true) [59,49];have a2:=e (p.u=true) [59,52];have a3:=e (p.t=true) [59,55];have a4:=e (p.f≠0) ([59,51]++lg (p.f-1));have a5:=e (p.k≠0) ([59,52]++lg (p.k-1));have b1:=kS (p.f-1);have b2:=kS (p.k-1);simp only[lQ,fB,dH]at a1 a2 a3 a4 a5;omega
theorem J9(h:p.Ok):bl (EE p)=nL p:=JN _ (Hr h)
theorem Le(p:fO):(EE p).size≤14:=by unfold EE;rw[Bl];exact Bh p
theorem OE(p:fO)(hp:p.Ok)(w:World):Calls prog 197 #[.agg (gI p)] w fun e w'=>(∃U:ByteArray,e= .returned (.string U)∧bl U=nL p)∧Below w.heap.size w w':=by
 obtain⟨b,u,t,f,k⟩:=p;obtain⟨h1,h2,h3,h4⟩:=hp;dsimp only at h1 h2 h3 h4;have lf:∀w:World,f≠0→Calls prog 93 #[.int .i64 (f-1)] w fun e w'=>e= .returned (.string (pJ (f-1)))∧w'=w:=fun w hf=>by have:=qQ (f-1).toNat (by omega) w;rwa[show(((f-1).toNat:Nat):Int)=f-1 by omega]at this
 have lk:∀w:World,k≠0→Calls prog 93 #[.int .i64 (k-1)] w fun e w'=>e= .returned (.string (pJ (k-1)))∧w'=w:=fun w hf=>by have:=qQ (k-1).toNat (by omega) w;rwa[show(((k-1).toNat:Nat):Int)=k-1 by omega]at this
 have zf:=j6 (f-1);have zk:=j6 (k-1);have vf:IntKind.i64.wrap (f-1)=f-1:=bV _ (by omega);have vk:IntKind.i64.wrap (k-1)=k-1:=bV _ (by omega);have Df:Hid (f≠0→bl (pJ (f-1))=lg (f-1)):=fun h=>rO (by omega);have Dk:Hid (k≠0→bl (pJ (k-1))=lg (k-1)):=fun h=>rO (by omega);have E1:Hid (bl ({data:=#[59,49]}:ByteArray)=[59,49]):=rfl;have E2:Hid (bl ({data:=#[59,52]}:ByteArray)=[59,52]):=rfl;have E3:Hid (bl ({data:=#[59,55]}:ByteArray)=[59,55]):=rfl;have E4:Hid (bl ({data:=#[59,51]}:ByteArray)=[59,51]):=rfl;have E0:Hid (bl ({data:=#[]}:ByteArray)=[]):=rfl;have BW:Hid (∀o,Below w.heap.size w (w.alloc o)):=fun o=>(dF _ _).alloc (bE _) _;rw[show gI ⟨b,u,t,f,k⟩= #[.bool b,.bool u,.bool t,.int .i64 f,.int .i64 k] from rfl];generalize pJ (f-1)=agM at*;generalize pJ (k-1)=KS at*;by_cases hf:f=0
 ·by_cases hk:k=0
  ·subst hf hk;clear lf lk;cases b<;>cases u<;>cases t
   all_goals
    go_enter func197,ntmps197;go_wp2_with fail;go_ret;exact⟨⟨_,rfl,rfl⟩,BW.o _⟩
  ·subst hf;have hk':(k != 0)=true:=by simpa using hk
   have lk:=fun w=>lk w hk;clear lf;cases b<;>cases u<;>cases t
   all_goals
    go_enter func197,ntmps197;go_wp2_with (go_at_call 93;refine(lk _).mono ?_;rintro e w1 ⟨rfl,hw1⟩;have hw2:=hw1.symm;subst hw2);go_ret;exact⟨⟨_,rfl,by simp only[iy,E0.o,E1.o,E2.o,E3.o,Dk.o hk,nL,ne_eq,hk,not_false_eq_true,not_true_eq_false,if_true,if_false,Bool.false_eq_true,Aw,sF]⟩,BW.o _⟩
 ·have hf':(f != 0)=true:=by simpa using hf
  have lf:=fun w=>lf w hf;by_cases hk:k=0
  ·subst hk;clear lk;cases b<;>cases u<;>cases t
   all_goals
    go_enter func197,ntmps197;go_wp2_with (go_at_call 93;refine(lf _).mono ?_;rintro e w1 ⟨rfl,hw1⟩;have hw2:=hw1.symm;subst hw2);go_ret;exact⟨⟨_,rfl,by simp only[iy,E0.o,E1.o,E2.o,E3.o,E4.o,Df.o hf,nL,ne_eq,hf,not_false_eq_true,not_true_eq_false,if_true,if_false,Bool.false_eq_true,Aw,Av,sF]⟩,BW.o _⟩
  ·have hk':(k != 0)=true:=by simpa using hk
   have lk:=fun w=>lk w hk;cases b<;>cases u<;>cases t
   all_goals
    go_enter func197,ntmps197;go_wp2_with (first|(go_at_call 93;refine(lf _).mono ?_;rintro e w1 ⟨rfl,hw1⟩;have hw2:=hw1.symm;subst hw2)|(go_at_call 93;refine(lk _).mono ?_;rintro e w1 ⟨rfl,hw1⟩;have hw2:=hw1.symm;subst hw2));go_ret;exact⟨⟨_,rfl,by simp only[iy,E0.o,E1.o,E2.o,E3.o,E4.o,Df.o hf,Dk.o hk,nL,ne_eq,hf,hk,not_false_eq_true,if_true,if_false,Bool.false_eq_true,Aw,sF]⟩,BW.o _⟩
theorem Rb(p:fO)(hp:p.Ok)(w:World):Calls prog 197 #[.agg (gI p)] w fun e w'=>e= .returned (.string (EE p))∧Below w.heap.size w w':=by refine(OE p hp w).mono ?_;rintro e w' ⟨⟨U,rfl,h1⟩,h2⟩;exact⟨by rw[Ci (h1.trans (J9 hp).symm)],h2⟩
end Go.Proofs.YtheibfffilomcabGreatDoor
