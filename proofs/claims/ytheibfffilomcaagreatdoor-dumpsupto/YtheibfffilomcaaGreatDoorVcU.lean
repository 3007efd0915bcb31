import Derived.Test.YtheibfffilomcaaGreatDoorTmaU
import Derived.Test.YtheibfffilomcaaGreatDoorUcU
import Derived.Test.YtheibfffilomcaaGreatDoorCaU
import Derived.Test.YtheibfffilomcaaGreatDoorCdU
import Derived.Test.YtheibfffilomcaaGreatDoorXeU
import Derived.Test.YtheibfffilomcaaGreatDoorWdU
import Derived.BigQuiet
set_option linter.all false
set_option maxRecDepth 100000
set_option maxHeartbeats 4000000
namespace Go.Proofs.YtheibfffilomcaaGreatDoor
open Go.RowKit Go.Proofs.Tryz
variable {w w' u w0:World} {r:bY} {v:Value} {B ah base:Nat} {N:Int} {ops:Array Oper} {rest:List Oper} {a:Act} {Q:Exit→Act→World→Prop} {p n:Option DC}
theorem CE(S:bS)(a n len:Nat)(hn:1≤n)(hl:a+len≤S.length):∀i,i+n≤len→∀j,(iI S a n len i).getD j []=if a+(len-i)≤j∧j<a+len then S.getD (j-n) []else S.getD j []:=by
 intro i;induction i with
 |zero=>intro _ j;rw[ai (by omega)];rfl
 |succ i ih=>
  intro hi j;rw[iI,r9,ja,ih (by omega),ih (by omega)];by_cases h:j=a+(len-1-i)
  ·subst h;rw[ak ⟨rfl,by omega⟩,ai (by omega),ak (by omega)]
  ·rw[ai (by omega)];by_cases h2:a+(len-i)≤j∧j<a+len
   ·rw[ak h2,ak (by omega)]
   ·rw[ai h2,ai (by omega)]
abbrev cz:=List bY
def dM (S:cz):bS:=S.map strip
theorem bF(S:cz):(dM S).length=S.length:=List.length_map _
theorem gV(S:cz)(j:Nat):(dM S).getD j []=strip (S.getD j []):=by unfold dM;simp only[List.getD,pW];cases S[j]? <;>rfl
theorem KO(S:cz)(j:Nat)(r:bY):dM (S.set j r)=(dM S).set j (strip r):=List.map_set
def bI (S:cz) (top bottom n:Int) (ah:Nat):cz:=
 (List.range S.length).map fun(i:Nat)=>if(i:Int)<top∨bottom<(i:Int)then S.getD i []else if(i:Int)+n<top∨bottom<(i:Int)+n then List.replicate ah aM else S.getD ((i:Int)+n).toNat []
theorem fZ(S:cz)(top bottom n:Int)(ah:Nat):(bI S top bottom n ah).length=S.length:=by simp[bI]
theorem nW(S:cz)(top bottom n:Int)(ah i:Nat)(hi:i<S.length):(bI S top bottom n ah).getD i []=if(i:Int)<top∨bottom<(i:Int)then S.getD i []else if(i:Int)+n<top∨bottom<(i:Int)+n then List.replicate ah aM else S.getD ((i:Int)+n).toNat []:=by unfold bI;simp only[List.getD,pW,List.getElem?_range hi];rfl
theorem Im(S:cz)(top bottom:Int)(n ah:Nat)(h0:0≤top)(htb:top≤bottom+1)(hb:bottom<(S.length:Int))(hn:1≤n):dM (bI S top bottom n ah)=FX (dM S) top.toNat (bottom+1-top).toNat n ah:=by
 obtain⟨a,rfl⟩:∃a:Nat,top=(a:Int):=⟨top.toNat,by omega⟩;obtain⟨len,hlen⟩:∃len:Nat,bottom+1-(a:Int)=(len:Int):=⟨(bottom+1-(a:Int)).toNat,by omega⟩;rw[hlen,lF,lF];have hb':bottom=(a:Int)+(len:Int)-1:=by omega
 subst hb';apply zM
 ·rw[bF,fZ,uj,bF]
 intro j hj;rw[bF,fZ]at hj;rw[gV,nW _ _ _ _ _ _ hj];unfold FX;rw[lK _ _ _ _ (by rw[jO,bF];omega)];by_cases hnl:n≤len
 ·rw[IP _ _ _ _ (by rw[bF];omega)];by_cases h1:(j:Int)<(a:Int)∨(a:Int)+(len:Int)-1<(j:Int)
  ·rw[ak h1,ai (by omega),ai (by omega),gV]
  ·rw[ai h1];by_cases h2:(j:Int)+(n:Int)<(a:Int)∨(a:Int)+(len:Int)-1<(j:Int)+(n:Int)
   ·rw[ak h2,ak (by omega),ku];rfl
   ·rw[ai h2,ai (by omega),ak (by omega),gV,show((j:Int)+(n:Int)).toNat=j+n by omega]
 ·rw[show len-min n len=0 by omega];show _=if _ then _ else(dM S).getD j [];by_cases h1:(j:Int)<(a:Int)∨(a:Int)+(len:Int)-1<(j:Int)
  ·rw[ak h1,ai (by omega),gV]
  ·rw[ai h1,ak (by omega),ak (by omega),ku];rfl
theorem CJ(S:cz)(top bottom:Int)(n ah:Nat)(h0:0≤top)(htb:top≤bottom+1)(hb:bottom<(S.length:Int))(hn:1≤n):dM (bI S top bottom (-(n:Int)) ah)=oC (dM S) top.toNat (bottom+1-top).toNat n ah:=by
 obtain⟨a,rfl⟩:∃a:Nat,top=(a:Int):=⟨top.toNat,by omega⟩;obtain⟨len,hlen⟩:∃len:Nat,bottom+1-(a:Int)=(len:Int):=⟨(bottom+1-(a:Int)).toNat,by omega⟩;rw[hlen,lF,lF];have hb':bottom=(a:Int)+(len:Int)-1:=by omega
 subst hb';apply zM
 ·rw[bF,fZ,qi,bF]
 intro j hj;rw[bF,fZ]at hj;rw[gV,nW _ _ _ _ _ _ hj];unfold oC;rw[lK _ _ _ _ (by rw[ja,bF];omega)];by_cases hnl:n≤len
 ·rw[rT hnl,CE _ _ _ _ hn (by rw[bF];omega) _ (by omega)];by_cases h1:(j:Int)<(a:Int)∨(a:Int)+(len:Int)-1<(j:Int)
  ·rw[ak h1,ai (by omega),ai (by omega),gV]
  ·rw[ai h1];by_cases h2:(j:Int)+ -(n:Int)<(a:Int)∨(a:Int)+(len:Int)-1<(j:Int)+ -(n:Int)
   ·rw[ak h2,ak (by omega),ku];rfl
   ·rw[ai h2,ai (by omega),ak (by omega),gV,show((j:Int)+ -(n:Int)).toNat=j-n by omega]
 ·rw[wO (by omega),show len-len=0 by omega];show _=if _ then _ else(dM S).getD j [];by_cases h1:(j:Int)<(a:Int)∨(a:Int)+(len:Int)-1<(j:Int)
  ·rw[ak h1,ai (by omega),gV]
  ·rw[ai h1,ak (by omega),ak (by omega),ku];rfl
def Aa (N:Int) (ah:Nat) (S:cz):Prop:=∀r∈S,Ao N r∧r.length=ah
theorem Aa.getD{S:cz}(h:Aa N ah S){i:Nat}(hi:i<S.length):Ao N (S.getD i [])∧(S.getD i []).length=ah:=by
 have e:S.getD i []=S[i]:=by simp[List.getD,eG hi]
 rw[e];exact h _ (zW hi)
theorem Aa.set{S:cz}(h:Aa N ah S)(i:Nat)(hr:Ao N r∧r.length=ah):Aa N ah (S.set i r):=fun q hq=>by
 rcases List.mem_or_eq_of_mem_set hq with hq|rfl
 ·exact h q hq
 ·exact hr
theorem Aa.mono{M:Int}{S:cz}(h:Aa N ah S)(hm:N≤M):Aa M ah S:=fun r hr=>⟨(h r hr).1.mono hm,(h r hr).2⟩
theorem Aa.RL{S:cz}(h:Aa N ah S)(top bottom n:Int)(h0:0≤top)(hb:bottom<(S.length:Int)):Aa N ah (bI S top bottom n ah):=by
 intro r hr;obtain⟨i,hi,rfl⟩:=List.getElem_of_mem hr;rw[fZ]at hi;have e:=nW S top bottom n ah i hi;have e':(bI S top bottom n ah).getD i []=(bI S top bottom n ah)[i]:=by simp[List.getD,eG (show i<(bI S top bottom n ah).length by rw[fZ];exact hi)]
 rw[←e',e];split
 ·exact h.getD hi
 ·split
  ·exact⟨Ao.blank N ah,by simp⟩
  ·exact h.getD (by omega)
theorem Aa.fresh(N:Int)(rows ah:Nat):Aa N ah (List.replicate rows (List.replicate ah aM)):=fun r hr=>by rw[AJ hr];exact⟨Ao.blank N ah,by simp⟩
def tF (c:DC):List Value:=cellV c.1++[.int .i64 c.2]
def Dr (c:DC):Array Value:=(tF c).toArray
def Mr:DC:=(nG,0)
theorem vL(c:DC):(tF c).length=8:=rfl
theorem tJ(c:DC):∀v∈tF c,v.oneCell'=true:=by intro v hv;have:(tF c).all (·.oneCell')=true:=rfl;exact List.all_eq_true.1 this v hv
theorem acj:(prog.info? 177).map (fun i=>(i.zero,i.size,i.bytes))=some (some (.agg (Dr Mr)),8,48):=by kernel_rfl
theorem lV:(prog.info? 177).map (·.size)=some 8:=by kernel_rfl
def pz (r:bY):List Value:=r.flatMap tF
theorem EP(a b:bY):pz (a++b)=pz a++pz b:=List.flatMap_append
theorem vO(r:bY)(j:Nat)(c:DC)(h:r[j]? =some c)(i:Nat)(hi:i<8):(pz r)[j*8+i]? =(tF c)[i]? :=by
 induction r generalizing j with
 |nil=>simp at h
 |cons d r ih=>
  show(tF d++pz r)[j*8+i]? =_;cases j with
  |zero=>simp at h;subst h;rw[qA (by rw[vL];omega)];simp
  |succ j=>rw[og (by rw[vL];omega),vL,show(j+1)*8+i-8=j*8+i by omega];exact ih j (by simpa using h)
def gL (w:World) (base:Nat) (v:Value) (r:bY):Prop:=w.ownsRow base 177 8 v r.length (pz r)
theorem gL.nil(w:World)(base:Nat):gL w base (.slice none 0 0) []:=AU _ _ _ _
theorem gL.below(h:gL w base v r)(hb:Below w.heap.size w w'):gL w' base v r:=
 xU (row:=none) h ⟨hb.os,hb.tape,hb.output,hb.size,fun k hk _=>hb.block k hk⟩ (by cases hv:v.ownBlock<;>simp)
def dF (w:World) (B:Nat) (v:Value) (r:bY):Prop:=∃a cap,v= .slice a r.length cap∧r.length≤cap∧∀j c,r[j]? =some c→∃b o,a=some ⟨b,o,none⟩∧(B≤b∧∃cur fr,w.heap[b]? =some (.cells cur 177 fr)∧∃x,cur[1]? =some (.bool x))∧b<w.heap.size∧w.rangeAt b (o+j*8) (tF c)
theorem gL.rd(h:gL w base v r):dF w base v r:=by
 obtain⟨h1,h2⟩:=h;rcases h2 with⟨rfl,h0⟩|⟨g,cap,cur,rfl,hgb,hg,hn,_,hcs,htake⟩
 ·refine⟨none,0,by rw[h0],by omega,fun j x hj=>?_⟩;have:r=[]:=zT h0;subst this;simp at hj
 ·refine⟨_,cap,rfl,hn,fun j c hj=>⟨g,0,rfl,⟨hgb,_,_,hg,?_⟩,(wK.1 hg).1,fun i v hv=>?_⟩⟩
  ·obtain⟨c0,hc0⟩:∃c0,r[0]? =some c0:=⟨_,eG (by have:=(gJ.1 hj).1;omega)⟩;have e1:=vO r 0 c0 hc0 1 (by omega);rw[←htake,mJ]at e1;refine⟨c0.1.p.b,?_⟩;split at e1
   ·have e2:(tF c0)[1]? =some (.bool c0.1.p.b):=rfl;rw[e2]at e1;simpa using e1
   ·cases e1
  rw[bG _ _ _ _ _ _ hg,lH];have hi:i<8:=by have:=(gJ.1 hv).1;rw[vL]at this;exact this
  have e:=vO r j c hj i hi;rw[hv, ←htake,mJ]at e;split at e
  ·simpa using e
  ·cases e
theorem dF.mono{B':Nat}(h:dF w B v r)(hb:B'≤B):dF w B' v r:=by obtain⟨a,cap,h1,h2,h3⟩:=h;refine⟨a,cap,h1,h2,fun j c hj=>?_⟩;obtain⟨b,o,e,hB,hlt,hr⟩:=h3 j c hj;exact⟨b,o,e,⟨iD hb hB.1,hB.2⟩,hlt,hr⟩
theorem dF.kept{w w':World}{B:Nat}{v:Value}{r:bY}(h:dF w B v r){P:Nat→Prop}(c:Ch P w w')(hp:∀b,B≤b→¬P b):dF w' B v r:=by obtain⟨a,cap,h1,h2,h3⟩:=h;refine⟨a,cap,h1,h2,fun j x hj=>?_⟩;obtain⟨b,o,e,hB,hlt,hr⟩:=h3 j x hj;have hk:=c.block b hlt (hp b hB.1);obtain⟨hB1,cur,fr,mF,hx⟩:=hB;exact⟨b,o,e,⟨hB1,cur,fr,hk.trans mF,hx⟩,fJ hlt c.size,fun i v hv=>(dA hk).trans (hr i v hv)⟩
theorem dF.sm(h:dF w B v r)(c:Sm w w'):dF w' B v r:=h.kept c (fun _ _ h=>h)
theorem dF.below(h:dF w B v r)(hb:Below w.heap.size w w'):dF w' B v r:=h.sm (Ch.of_below hb)
theorem dF.part{b o n cap:Nat}(h:dF w B (.slice (some ⟨b,o,none⟩) n cap) r)(i m:Nat)(hm:i+m≤n):dF w B (.slice (some ⟨b,o+i*8,none⟩) m (cap-i)) ((r.drop i).take m):=by
 obtain⟨a,cap',h1,h2,h3⟩:=h;cases h1;refine⟨_,cap-i,by rw[kg,o8,rT (by omega)],by rw[kg,o8];omega,fun j c hj=>?_⟩;rw[mJ]at hj;split at hj
 ·rw[rf]at hj;obtain⟨b',o',e,hB,hlt,hr⟩:=h3 (i+j) c hj;cases e;exact⟨b,o+i*8,rfl,hB,hlt,by rw[show o+i*8+j*8=o+(i+j)*8 by omega];exact hr⟩
 ·cases hj
theorem pU{o:Oper}(u:World)(hgd:o.guard=none)(x:Operand)(ho:o.op= .buildSlice 172 1 #[(0,x)])(c:DC)(hx:a.eval x= .agg (Dr c))(h:wpList prog ops Q rest (a.put o.dst (.slice (some ⟨u.heap.size,0,none⟩) 1 1)) (u.alloc (.cells (Dr c) 177))):wpList prog ops Q (o::rest) a u:=by
 refine oq hgd fun K hK=>?_;have R:=hK _ _ h;have hr:(Instr.buildSlice 172 1 #[(0,.agg (Dr c))]).run prog u= .ok (.slice (some ⟨u.heap.size,0,none⟩) 1 1) (u.alloc (.cells (Dr c) 177)):=by kernel_rfl
 unfold Oper.wp execOp;have hm:(#[(0,x)].map fun(i,x)=>(i,a.eval x))= #[(0,.agg (Dr c))]:=by simp[hx]
 simp only[ho,hm,jV,hr,jU,mK];exact R
theorem o6{o:Oper}(u:World)(hgd:o.guard=none)(s x:Operand)(ho:o.op= .call {callee:=.builtin .append,args:=#[s,x],argTypes:=#[172,172]})(base:Nat)(v:Value)(r:bY)(c:DC)(hs:a.eval s=v)(own:gL u base v r)(hx:a.eval x= .slice (some ⟨u.heap.size,0,none⟩) 1 1)(hn:r.length≤1000000)(hb:base≤u.heap.size)(h:∀v' w',gL w' base v' (r++[c])→u.grownBy w' v.ownBlock→wpList prog ops Q rest (a.put o.dst v') w'):
 wpList prog ops Q (o::rest) a (u.alloc (.cells (Dr c) 177)):=by
 obtain⟨i0,hi,hz0,hz1,hz2⟩:=info_parts acj;refine jI _ hgd s x 172 ho base 177 i0 (.agg (Dr Mr)) 8 48 underlying172 hi hz0 hz1 hz2 (by rfl) v _ _ hs (xS own _) ⟨u.heap.size,0,none⟩ 1 1 (tF c) hx (vL c) (vK _ _ _) (tJ c) (by omega) ?_ ?_ ?_ ?_
 ·unfold maxLen;omega
 ·omega
 ·simp;omega
 ·intro v' w' hown hgrow hblk hkeep;refine h v' w' ?_ ⟨hgrow.os,hgrow.tape,hgrow.output,iD (by simp) hgrow.size,fun k hk hn=>(hgrow.block k (by simp;omega) hn).trans (gK u _ _ hk)⟩;unfold gL;rw[fU,EP];have e:pz [c]=tF c:=by simp[pz]
  rw[e];exact hown
theorem ji(b0:Below B w0 u)(hB:B≤u.heap.size)(own:gL u B v r)(g:u.grownBy w' v.ownBlock):Below B w0 w':=by
 refine b0.trans ⟨g.os,g.tape,g.output,g.size,fun k hk=>g.block k (by omega) ?_⟩;rcases own.2 with⟨rfl,_⟩|⟨b,cap,cur,rfl,hb,_⟩
 ·intro e;cases e
 ·intro e;have e':k=b:=by simpa[Value.ownBlock]using e
  omega


def Xq (w:World) (ao:Option Addr) (T:List ByteArray):Prop:=∀j t,T[j]? =some t→∃b o,ao=some ⟨b,o,none⟩∧b<w.heap.size∧w.cell? ⟨b,o+j,none⟩=some (.string t)
theorem Xq.below{ao:Option Addr}{T:List ByteArray}(h:Xq w ao T)(b:Below w.heap.size w w'):Xq w' ao T:=fun j t hj=>by obtain⟨x,o,h1,h2,h3⟩:=h j t hj;exact⟨x,o,h1,fJ h2 b.size,(dA (b.block x h2)).trans h3⟩
structure OV (B:Nat) (w:World) (fb:Nat) (L:Lay) (rows ah:Nat) (l:List Int):Prop where
 f:Cm w fb L ((akA.fresh rows ah).feed l)
 fb:B≤fb
 own:∀k,L.own k→B≤k
theorem OV.feed{fb:Nat}{L:Lay}{rows:Nat}{l:List Int}{t:List Int}(h:OV B w fb L rows ah l)(hB:B≤w.heap.size)(b0:Below B w0 w){cs:List Int}{L':Lay}(n:FI w fb L v cs (((akA.fresh rows ah).feed l).feed t) w' L'):OV B w' fb L' rows ah (l++t)∧Below B w0 w':=by
 refine⟨⟨by rw[GJ];exact n.f,h.fb,fun k hk=>?_⟩,b0.trans (n.ch.below hB (fun k hk e=>?_))⟩
 ·rcases n.gr k hk with q|q
  ·exact h.own k q
  ·omega
 ·rcases e with e|e
  ·have:=h.fb;omega
  ·have:=h.own k e;omega
theorem JR(ty:TypeId)(hty:ty=101∨ty=82∨ty=84)(op:BinOp)(x y:Operand)(xs ys:Array Value)(w:World):(eqGuard op ty x y (.agg xs) (.agg ys)).run prog w= .ok () w:=by
 rcases hty with rfl|rfl|rfl
 ·exact run_eqGuard_agg w op 101 x y xs ys (by kernel_rfl)
 ·exact run_eqGuard_agg w op 82 x y xs ys (by kernel_rfl)
 ·exact run_eqGuard_agg w op 84 x y xs ys (by kernel_rfl)
theorem BX{u':World}{g:Nat}(h:Sm w u)(k:Ch (· =g) u u')(hg:w.heap.size≤g):Sm w u':=h.trans' k (fun i hi e=>by omega)
theorem mX(w:World):Calls prog 198 #[] w fun e w'=>e= .returned (.agg (Dr aM))∧Sm w w':=by go_enter func198,ntmps198;go_wp2_with (refine bK _ rfl 177 (.tmp 0) (.tmp 2) rfl w.heap.size (tF Mr) (tF aM) rfl _ rfl rfl 177 (bV _ _) rfl lV (tJ _) ?_);intro u2 g2 k2 z2;go_wp2_with fail;exact bX (eX results198 _ _ w.heap.size (tF aM) 177 (0,0) underlying177 lV rfl g2) rfl ⟨rfl,((Ch.refl _ _).alloc _).trans' k2 (fun k hk e=>by omega)⟩
theorem iE(n:Nat)(w:World)(hn:n≤1000):Calls prog 132 #[.int .i64 (n:Int)] w fun e w'=>∃v,e= .returned v∧gL w' w.heap.size v (List.replicate n aM)∧Below w.heap.size w w':=by
 go_enter func132,ntmps132;go_wp2_with fail;go_loopw [3,4] (fun v i wr=>∃k:Nat,k≤n∧i= .int .i64 k∧gL wr w.heap.size v (List.replicate k aM)∧Below w.heap.size w wr) (fun _ i _=>n-(intOf i).toNat)
 case atStart=>exact⟨0,dx _,rfl,gL.nil _ _,dU _ _⟩
 case round=>
  obtain⟨k,hk,rfl,own,iB⟩:=hrel;by_cases hlt:k<n
  ·have ik:(k:Int)<(n:Int):=by omega
   have vk:IntKind.i64.wrap ((k:Int)+1)=(k:Int)+1:=bD _ (by omega);have HO:Hid (gL wr w.heap.size u3 (List.replicate k aM)):=own;have HB:Hid _:=iB;clear own iB;go_wp2_with fail;refine(mX wr).mono ?_;rintro e w1 ⟨rfl,s1⟩;have o1:=HO.o.below (s1.below (bN _) (fun _ _ h=>h));have b1:Below w.heap.size w w1:=HB.o.trans (s1.below HB.o.size (fun _ _ h=>h));have H1:Hid (gL w1 w.heap.size u3 (List.replicate k aM)):=o1;have H2:Hid _:=b1;clear o1 b1 s1 HO HB;go_wp2_with (first|(refine pU w1 rfl (.tmp 11) rfl aM rfl ?_)|(refine o6 w1 rfl (.tmp 10) (.tmp 12) rfl w.heap.size _ _ aM rfl H1.o rfl (by simp;omega) H2.o.size ?_));intro v' w' own' g';have b':=ji H2.o H2.o.size H1.o g';go_wp2_with fail;go_roundw
   case rel=>exact⟨k+1,by omega,by go_num,by rw[List.replicate_succ'];exact own',b'⟩
   case measure=>simp[intOf];omega
  ·have ik:¬(k:Int)<(n:Int):=by omega
   obtain rfl:k=n:=by omega
   go_wp2_with fail;go_ret;exact⟨_,rfl,own,iB⟩
theorem zA(a b:Int)(w:World):Calls prog 133 #[.int .i64 a,.int .i64 b] w fun e w'=>e= .returned (.int .i64 (min a b))∧w'=w:=by
 by_cases h:a<b
 ·rw[show min a b=a by omega];go_enter func133,ntmps133;go_wp2_with fail;go_ret;exact⟨rfl,rfl⟩
 ·rw[show min a b=b by omega];go_enter func133,ntmps133;go_wp2_with fail;go_ret;exact⟨rfl,rfl⟩
theorem vJ(va vb:Value)(ra rb:bY)(Ba Bb:Nat)(w:World)(ha:dF w Ba va ra)(hb:dF w Bb vb rb)(hl:ra.length+rb.length≤1000):Calls prog 195 #[va,vb] w fun e w'=>∃v,e= .returned v∧gL w' w.heap.size v (ra++rb)∧Below w.heap.size w w':=by
 have RA:Hid (dF w Ba va ra):=ha;have RB:Hid (dF w Bb vb rb):=hb;obtain⟨aa,ca,rfl,hca,hra⟩:=ha;obtain⟨ab,cb,rfl,hcb,hrb⟩:=hb;have WR:Hid _:=hra;have HRB:Hid _:=hrb;clear hra hrb;go_enter func195,ntmps195;go_wp2_with fail;go_loopw [5,6] (fun v i wr=>∃k:Nat,k≤ra.length∧i= .int .i64 k∧gL wr w.heap.size v (ra.take k)∧Below w.heap.size w wr) (fun _ i _=>ra.length-(intOf i).toNat)
 case atStart=>exact⟨0,dx _,rfl,gL.nil _ _,dU _ _⟩
 case round=>
  obtain⟨k,hk,rfl,own,iB⟩:=hrel;by_cases hlt:k<ra.length
  ·have ik:(k:Int)<(ra.length:Int):=by omega
   have vk:IntKind.i64.wrap ((k:Int)+1)=(k:Int)+1:=bD _ (by omega);obtain⟨c,hc⟩:∃c,ra[k]? =some c:=⟨_,eG hlt⟩;obtain⟨b,o,rfl,hB,hbl,hrg⟩:=WR.o k c hc;have RG:wr.rangeAt b (o+k*8) (tF c):=fun i v hv=>(dA (iB.block b hbl)).trans (hrg i v hv);have uF:Hid _:=RG;have HO:Hid (gL wr w.heap.size u5 (ra.take k)):=own;have HB:Hid _:=iB;have HC:Hid (ra.take (k+1)=ra.take k++[c]):=by obtain⟨h1,h2⟩:=gJ.1 hc;show _=_;rw[o7 h1,h2]
   clear own iB hrg hc RG;go_wp2_with (first|(refine nN rfl 177 (.tmp 17) rfl b (o+k*8) rfl (tF c) _ uF.o underlying177 rfl lV ?_)|(refine pU wr rfl (.tmp 18) rfl c rfl ?_)|(refine o6 wr rfl (.tmp 14) (.tmp 19) rfl w.heap.size _ _ c rfl HO.o rfl (by simp;omega) HB.o.size ?_));intro v' w' own' g';have b':=ji HB.o HB.o.size HO.o g';rw[←HC.o]at own';go_wp2_with fail;go_roundw
   case rel=>exact⟨k+1,by omega,by go_num,own',b'⟩
   case measure=>simp[intOf];omega
  ·have ik:¬(k:Int)<(ra.length:Int):=by omega
   obtain rfl:k=ra.length:=by omega
   rw[List.take_length]at own;have afZ:Hid (gL wr w.heap.size u5 ra):=own;have aeC:Hid _:=iB;clear own iB;go_wp2_with fail;go_loopw [5,7] (fun v i wr=>∃k:Nat,k≤rb.length∧i= .int .i64 k∧gL wr w.heap.size v (ra++rb.take k)∧Below w.heap.size w wr) (fun _ i _=>rb.length-(intOf i).toNat)
   case atStart=>exact⟨0,dx _,rfl,by rw[List.take_zero,gp];exact afZ.o,aeC.o⟩
   case round=>
    obtain⟨k,hk,rfl,own,iB⟩:=hrel;by_cases hlt:k<rb.length
    ·have ik:(k:Int)<(rb.length:Int):=by omega
     have vk:IntKind.i64.wrap ((k:Int)+1)=(k:Int)+1:=bD _ (by omega);obtain⟨c,hc⟩:∃c,rb[k]? =some c:=⟨_,eG hlt⟩;obtain⟨b,o,rfl,hB,hbl,hrg⟩:=HRB.o k c hc;have RG:wr.rangeAt b (o+k*8) (tF c):=fun i v hv=>(dA (iB.block b hbl)).trans (hrg i v hv);have uF:Hid _:=RG;have HO:Hid (gL wr w.heap.size u5 (ra++rb.take k)):=own;have HB:Hid _:=iB;have HC:Hid (ra++rb.take (k+1)=ra++(rb.take k++[c])):=by obtain⟨h1,h2⟩:=gJ.1 hc;show _=_;rw[o7 h1,h2]
     clear own iB hrg hc RG;go_wp2_with (first|(refine nN rfl 177 (.tmp 30) rfl b (o+k*8) rfl (tF c) _ uF.o underlying177 rfl lV ?_)|(refine pU wr rfl (.tmp 31) rfl c rfl ?_)|(refine o6 wr rfl (.tmp 27) (.tmp 32) rfl w.heap.size _ _ c rfl HO.o rfl (by simp;omega) HB.o.size ?_));intro v' w' own' g';have b':=ji HB.o HB.o.size HO.o g';rw[←HC.o]at own';go_wp2_with fail;go_roundw
     case rel=>exact⟨k+1,by omega,by go_num,own',b'⟩
     case measure=>simp[intOf];omega
    ·have ik:¬(k:Int)<(rb.length:Int):=by omega
     obtain rfl:k=rb.length:=by omega
     rw[List.take_length]at own;go_wp2_with fail;go_ret;exact⟨_,rfl,own,iB⟩
theorem Hq:∀(l:bY) (p:Option DC),(mend p l).length=l.length:=by
 intro l;induction l with
 |nil=>intro p;rfl
 |cons c l ih=>intro p;rw[mend,fE,ih,fE]
theorem Re:∀(l:bY) (p:Option DC) (k:Nat) (c:DC),l[k]? =some c→(mend p l)[k]? =some (nT (if k=0 then p else l[k-1]?) c l[k+1]?):=by
 intro l;induction l with
 |nil=>intro p k c h;simp at h
 |cons d l ih=>
  intro p k c h;cases k with
  |zero=>simp at h;subst h;rw[mend];cases l<;>simp
  |succ k=>
   have h':l[k]? =some c:=by simpa using h
   rw[mend,F5,ih (some d) k c h'];cases k with
   |zero=>simp
   |succ k=>simp
theorem Nw(l:bY)(k:Nat)(c:DC)(h:l[k]? =some c):(mend none l).take (k+1)=(mend none l).take k++[nT (if k=0 then none else l[k-1]?) c l[k+1]?]:=by have:=Re l none k c h;obtain⟨h1,h2⟩:=gJ.1 this;rw[o7 h1,h2]
theorem BB{c:DC}(h:¬A_ p c n):nT p c n=c:=by unfold nT;rw[ai h]
theorem vT{c:DC}(h:A_ p c n):nT p c n=aM:=by unfold nT;rw[ak h]
theorem xC(v:Value)(r:bY)(B:Nat)(w:World)(hr:dF w B v r)(hl:r.length≤1000):Calls prog 196 #[v] w fun e w'=>∃v,e= .returned v∧gL w' w.heap.size v (mend none r)∧Below w.heap.size w w':=by
 obtain⟨ao,ca,rfl,hca,hra⟩:=hr;have WR:Hid _:=hra;clear hra;go_enter func196,ntmps196;go_wp2_with fail;go_loopw [3,4] (fun v i wr=>∃k:Nat,k≤r.length∧i= .int .i64 k∧gL wr w.heap.size v ((mend none r).take k)∧Below w.heap.size w wr) (fun _ i _=>r.length-(intOf i).toNat)
 case atStart=>exact⟨0,dx _,rfl,gL.nil _ _,dU _ _⟩
 case round=>
  obtain⟨k,hk,rfl,own,iB⟩:=hrel;by_cases hlt:k<r.length
  ·have ik:(k:Int)<(r.length:Int):=by omega
   have vk:IntKind.i64.wrap ((k:Int)+1)=(k:Int)+1:=bD _ (by omega);have vk':IntKind.i64.wrap ((k:Int)-1)=(k:Int)-1:=bD _ (by omega);obtain⟨c,hc⟩:∃c,r[k]? =some c:=⟨_,eG hlt⟩;obtain⟨b,o,rfl,hB,hbl,hrg⟩:=WR.o k c hc;have RG:∀u,Sm wr u→∀j x,r[j]? =some x→u.rangeAt b (o+j*8) (tF x):=fun u hu j x hj i v hv=>by obtain⟨b',o',e,_,_,h4⟩:=WR.o j x hj;cases e;exact(dA ((hu.block b (fJ hbl iB.size) id).trans (iB.block b hbl))).trans (h4 i v hv)
   have uF:Hid _:=RG;have RGk:Hid (wr.rangeAt b (o+k*8) (tF c)):=RG wr (Ch.refl _ _) k c hc;have HO:Hid (gL wr w.heap.size u3 ((mend none r).take k)):=own;have HB:Hid _:=iB;have HT:Hid _:=Nw r k c hc;have mW:Hid (((mend none r).take k).length≤1000000):=by show _≤_;rw[kg,Hq];omega
   clear own iB hrg RG;go_wp2_with (first|(refine nN rfl 177 (.tmp 15) rfl b (o+k*8) rfl (tF c) _ RGk.o underlying177 rfl lV ?_)|(refine bK _ rfl 177 (.tmp 5) (.tmp 16) rfl wr.heap.size (tF Mr) (tF c) rfl _ rfl rfl 177 (bV _ _) rfl lV (tJ _) ?_));intro y1 g1 k1 z1;obtain⟨g,hg⟩:∃g,g=wr.heap.size:=⟨_,rfl⟩;rw[←hg]at g1 k1 ⊢;have hgw:wr.heap.size≤g:=by omega
   have wu:Hid (Sm wr y1):=BX ((Ch.refl _ _).alloc _) k1 hgw;have nZ:Hid _:=g1;have hgl:=aK g1;have c6:y1.cell? ⟨g,6,none⟩=some (.int .i64 c.1.part):=(bG _ _ _ _ _ _ g1).trans rfl;have c7:y1.cell? ⟨g,7,none⟩=some (.int .i64 c.2):=(bG _ _ _ _ _ _ g1).trans rfl;clear k1 z1 g1 hg RGk;by_cases hp1:c.1.part=1
   ·rw[hp1]at c6;by_cases hnx:k+1<r.length
    ·obtain⟨x,hx⟩:∃x,r[k+1]? =some x:=⟨_,eG hnx⟩;have cx:y1.cell? ⟨b,o+(k+1)*8+7,none⟩=some (.int .i64 x.2):=uF.o y1 wu.o (k+1) x hx 7 _ rfl;have d1:decide ((r.length:Int)≤(k:Int)+1)=false:=by simp;omega
     have ik1:(k:Int)+1<(r.length:Int):=by omega
     by_cases hid:x.2=c.2
     ·clear hnx;have HC:Hid ((mend none r).take (k+1)=(mend none r).take k++[c]):=by
       show _=_;rw[HT.o,hx,BB];rintro(⟨_,h⟩|⟨h,_⟩)
       ·exact h x rfl hid
       ·omega
      rw[hid]at cx;go_wp2_with fail;go_quiet (fail);have S2:Sm wr y1:=wu.o;have g2:=nZ.o;have O2:gL y1 w.heap.size u3 ((mend none r).take k):=HO.o.below (S2.below (bN _) (fun _ _ h=>h));have B2:Below w.heap.size w y1:=HB.o.trans (S2.below HB.o.size (fun _ _ h=>h));have Ar:Hid (gL y1 w.heap.size u3 ((mend none r).take k)):=O2;have HG2:Hid _:=g2;have HB2:Hid _:=B2;clear O2 B2 g2;go_wp2_with (first|(refine fC rfl 177 (.tmp 5) rfl g rfl 177 _ (0,0) _ HG2.o underlying177 rfl lV ?_)|(refine pU _ rfl (.tmp 56) rfl c rfl ?_)|(refine o6 _ rfl (.tmp 55) (.tmp 57) rfl w.heap.size _ _ c rfl Ar.o rfl mW.o HB2.o.size ?_));intro v' w' own' g';have b':=ji HB2.o HB2.o.size Ar.o ⟨g'.os,g'.tape,g'.output,g'.size,g'.block⟩;rw[←HC.o]at own';go_wp2_with fail;go_roundw
      case rel=>exact⟨k+1,by omega,by go_num,own',b'⟩
      case measure=>simp[intOf];omega
     ·clear hnx;have HC:Hid ((mend none r).take (k+1)=(mend none r).take k++[aM]):=by show _=_;rw[HT.o,hx,vT];exact .inl ⟨hp1,fun y hy=>by cases hy;exact hid⟩
      go_wp2_with fail;go_quiet (fail);go_wp2_with fail;refine(mX _).mono ?_;rintro e z1 ⟨rfl,q0⟩;have q1:Sm y1 z1:=⟨q0.os,q0.tape,q0.output,q0.size,q0.block⟩;clear q0;have QH:z1.heap[g]? =some (.cells (tF c).toArray 177 (0,0)):=(q1.block g hgl id).trans nZ.o;go_wp2_with (refine bK _ rfl 177 (.tmp 5) (.tmp 54) rfl g (tF c) (tF aM) rfl _ rfl rfl 177 QH rfl lV (tJ _) ?_);intro z2 g2 k2 y2;have S2:Sm wr z2:=BX (wu.o.trans q1) k2 hgw;clear k2 y2 q1 QH;have O2:gL z2 w.heap.size u3 ((mend none r).take k):=HO.o.below (S2.below (bN _) (fun _ _ h=>h));have B2:Below w.heap.size w z2:=HB.o.trans (S2.below HB.o.size (fun _ _ h=>h));have Ar:Hid (gL z2 w.heap.size u3 ((mend none r).take k)):=O2;have HG2:Hid _:=g2;have HB2:Hid _:=B2;clear O2 B2 g2;go_wp2_with (first|(refine fC rfl 177 (.tmp 5) rfl g rfl 177 _ (0,0) _ HG2.o underlying177 rfl lV ?_)|(refine pU _ rfl (.tmp 56) rfl aM rfl ?_)|(refine o6 _ rfl (.tmp 55) (.tmp 57) rfl w.heap.size _ _ aM rfl Ar.o rfl mW.o HB2.o.size ?_));intro v' w' own' g';have b':=ji HB2.o HB2.o.size Ar.o ⟨g'.os,g'.tape,g'.output,g'.size,g'.block⟩;rw[←HC.o]at own';go_wp2_with fail;go_roundw
      case rel=>exact⟨k+1,by omega,by go_num,own',b'⟩
      case measure=>simp[intOf];omega
    ·have d1:decide ((r.length:Int)≤(k:Int)+1)=true:=by simp;omega
     have HC:Hid ((mend none r).take (k+1)=(mend none r).take k++[aM]):=by show _=_;rw[HT.o,wM (by omega:r.length≤k+1),vT];exact .inl ⟨hp1,fun y hy=>by cases hy⟩
     go_wp2_with fail;go_quiet (fail);go_wp2_with fail;refine(mX _).mono ?_;rintro e z1 ⟨rfl,q0⟩;have q1:Sm y1 z1:=⟨q0.os,q0.tape,q0.output,q0.size,q0.block⟩;clear q0;have QH:z1.heap[g]? =some (.cells (tF c).toArray 177 (0,0)):=(q1.block g hgl id).trans nZ.o;go_wp2_with (refine bK _ rfl 177 (.tmp 5) (.tmp 54) rfl g (tF c) (tF aM) rfl _ rfl rfl 177 QH rfl lV (tJ _) ?_);intro z2 g2 k2 y2;have S2:Sm wr z2:=BX (wu.o.trans q1) k2 hgw;clear k2 y2 q1 QH;have O2:gL z2 w.heap.size u3 ((mend none r).take k):=HO.o.below (S2.below (bN _) (fun _ _ h=>h));have B2:Below w.heap.size w z2:=HB.o.trans (S2.below HB.o.size (fun _ _ h=>h));have Ar:Hid (gL z2 w.heap.size u3 ((mend none r).take k)):=O2;have HG2:Hid _:=g2;have HB2:Hid _:=B2;clear O2 B2 g2;go_wp2_with (first|(refine fC rfl 177 (.tmp 5) rfl g rfl 177 _ (0,0) _ HG2.o underlying177 rfl lV ?_)|(refine pU _ rfl (.tmp 56) rfl aM rfl ?_)|(refine o6 _ rfl (.tmp 55) (.tmp 57) rfl w.heap.size _ _ aM rfl Ar.o rfl mW.o HB2.o.size ?_));intro v' w' own' g';have b':=ji HB2.o HB2.o.size Ar.o ⟨g'.os,g'.tape,g'.output,g'.size,g'.block⟩;rw[←HC.o]at own';go_wp2_with fail;go_roundw
     case rel=>exact⟨k+1,by omega,by go_num,own',b'⟩
     case measure=>simp[intOf];omega
   ·by_cases hp2:c.1.part=2
    ·rw[hp2]at c6;by_cases hk0:k=0
     ·have d1:decide ((k:Int)=0)=true:=by simp[hk0]
      have d1':((k:Int)==0)=true:=by simp[hk0]
      have De:Hid _:=hk0;clear hk0;have HC:Hid ((mend none r).take (k+1)=(mend none r).take k++[aM]):=by show _=_;rw[HT.o,ak De.o,vT];exact .inr ⟨hp2,fun y hy=>by cases hy⟩
      go_wp2_with fail;go_quiet (fail);go_wp2_with fail;refine(mX _).mono ?_;rintro e z1 ⟨rfl,q0⟩;have q1:Sm y1 z1:=⟨q0.os,q0.tape,q0.output,q0.size,q0.block⟩;clear q0;have QH:z1.heap[g]? =some (.cells (tF c).toArray 177 (0,0)):=(q1.block g hgl id).trans nZ.o;go_wp2_with (refine bK _ rfl 177 (.tmp 5) (.tmp 54) rfl g (tF c) (tF aM) rfl _ rfl rfl 177 QH rfl lV (tJ _) ?_);intro z2 g2 k2 y2;have S2:Sm wr z2:=BX (wu.o.trans q1) k2 hgw;clear k2 y2 q1 QH;have O2:gL z2 w.heap.size u3 ((mend none r).take k):=HO.o.below (S2.below (bN _) (fun _ _ h=>h));have B2:Below w.heap.size w z2:=HB.o.trans (S2.below HB.o.size (fun _ _ h=>h));have Ar:Hid (gL z2 w.heap.size u3 ((mend none r).take k)):=O2;have HG2:Hid _:=g2;have HB2:Hid _:=B2;clear O2 B2 g2;go_wp2_with (first|(refine fC rfl 177 (.tmp 5) rfl g rfl 177 _ (0,0) _ HG2.o underlying177 rfl lV ?_)|(refine pU _ rfl (.tmp 56) rfl aM rfl ?_)|(refine o6 _ rfl (.tmp 55) (.tmp 57) rfl w.heap.size _ _ aM rfl Ar.o rfl mW.o HB2.o.size ?_));intro v' w' own' g';have b':=ji HB2.o HB2.o.size Ar.o ⟨g'.os,g'.tape,g'.output,g'.size,g'.block⟩;rw[←HC.o]at own';go_wp2_with fail;go_roundw
      case rel=>exact⟨k+1,by omega,by go_num,own',b'⟩
      case measure=>simp[intOf];omega
     ·obtain⟨x,hx⟩:∃x,r[k-1]? =some x:=⟨_,eG (by omega)⟩;have cx:y1.cell? ⟨b,o+(k-1)*8+7,none⟩=some (.int .i64 x.2):=uF.o y1 wu.o (k-1) x hx 7 _ rfl;have d1:decide ((k:Int)=0)=false:=by simp;omega
      have d1':((k:Int)==0)=false:=by simp;omega
      have ik1:(k:Int)-1<(r.length:Int):=by omega
      have ik2:0≤(k:Int)-1:=by omega
      have ek:((k:Int)-1).toNat=k-1:=by omega
      by_cases hid:x.2=c.2
      ·have HX:Hid _:=hid;have HC:Hid ((mend none r).take (k+1)=(mend none r).take k++[c]):=by
        show _=_;rw[HT.o,ai hk0,hx,BB];rintro(⟨h,_⟩|⟨_,h⟩)
        ·omega
        ·exact h x rfl hid
       rw[hid]at cx;go_wp2_with fail;go_quiet (fail);have S2:Sm wr y1:=wu.o;have g2:=nZ.o;have O2:gL y1 w.heap.size u3 ((mend none r).take k):=HO.o.below (S2.below (bN _) (fun _ _ h=>h));have B2:Below w.heap.size w y1:=HB.o.trans (S2.below HB.o.size (fun _ _ h=>h));have Ar:Hid (gL y1 w.heap.size u3 ((mend none r).take k)):=O2;have HG2:Hid _:=g2;have HB2:Hid _:=B2;clear O2 B2 g2;go_wp2_with (first|(refine fC rfl 177 (.tmp 5) rfl g rfl 177 _ (0,0) _ HG2.o underlying177 rfl lV ?_)|(refine pU _ rfl (.tmp 56) rfl c rfl ?_)|(refine o6 _ rfl (.tmp 55) (.tmp 57) rfl w.heap.size _ _ c rfl Ar.o rfl mW.o HB2.o.size ?_));intro v' w' own' g';have b':=ji HB2.o HB2.o.size Ar.o ⟨g'.os,g'.tape,g'.output,g'.size,g'.block⟩;rw[←HC.o]at own';go_wp2_with fail;go_roundw
       case rel=>exact⟨k+1,by omega,by go_num,own',b'⟩
       case measure=>simp[intOf];omega
      ·have HX:Hid _:=hid;have HC:Hid ((mend none r).take (k+1)=(mend none r).take k++[aM]):=by show _=_;rw[HT.o,ai hk0,hx,vT];exact .inr ⟨hp2,fun y hy=>by cases hy;exact hid⟩
       go_wp2_with fail;go_quiet (fail);go_wp2_with fail;refine(mX _).mono ?_;rintro e z1 ⟨rfl,q0⟩;have q1:Sm y1 z1:=⟨q0.os,q0.tape,q0.output,q0.size,q0.block⟩;clear q0;have QH:z1.heap[g]? =some (.cells (tF c).toArray 177 (0,0)):=(q1.block g hgl id).trans nZ.o;go_wp2_with (refine bK _ rfl 177 (.tmp 5) (.tmp 54) rfl g (tF c) (tF aM) rfl _ rfl rfl 177 QH rfl lV (tJ _) ?_);intro z2 g2 k2 y2;have S2:Sm wr z2:=BX (wu.o.trans q1) k2 hgw;clear k2 y2 q1 QH;have O2:gL z2 w.heap.size u3 ((mend none r).take k):=HO.o.below (S2.below (bN _) (fun _ _ h=>h));have B2:Below w.heap.size w z2:=HB.o.trans (S2.below HB.o.size (fun _ _ h=>h));have Ar:Hid (gL z2 w.heap.size u3 ((mend none r).take k)):=O2;have HG2:Hid _:=g2;have HB2:Hid _:=B2;clear O2 B2 g2;go_wp2_with (first|(refine fC rfl 177 (.tmp 5) rfl g rfl 177 _ (0,0) _ HG2.o underlying177 rfl lV ?_)|(refine pU _ rfl (.tmp 56) rfl aM rfl ?_)|(refine o6 _ rfl (.tmp 55) (.tmp 57) rfl w.heap.size _ _ aM rfl Ar.o rfl mW.o HB2.o.size ?_));intro v' w' own' g';have b':=ji HB2.o HB2.o.size Ar.o ⟨g'.os,g'.tape,g'.output,g'.size,g'.block⟩;rw[←HC.o]at own';go_wp2_with fail;go_roundw
       case rel=>exact⟨k+1,by omega,by go_num,own',b'⟩
       case measure=>simp[intOf];omega
    ·have e1:(c.1.part==1)=false:=by simp[hp1]
     have e2:(c.1.part==2)=false:=by simp[hp2]
     have HC:Hid ((mend none r).take (k+1)=(mend none r).take k++[c]):=by
      show _=_;rw[HT.o,BB];rintro(⟨h,_⟩|⟨h,_⟩)
      ·exact hp1 h
      ·exact hp2 h
     have S2:Sm wr y1:=wu.o;have g2:=nZ.o;have O2:gL y1 w.heap.size u3 ((mend none r).take k):=HO.o.below (S2.below (bN _) (fun _ _ h=>h));have B2:Below w.heap.size w y1:=HB.o.trans (S2.below HB.o.size (fun _ _ h=>h));have Ar:Hid (gL y1 w.heap.size u3 ((mend none r).take k)):=O2;have HG2:Hid _:=g2;have HB2:Hid _:=B2;clear O2 B2 g2;go_wp2_with (first|(refine fC rfl 177 (.tmp 5) rfl g rfl 177 _ (0,0) _ HG2.o underlying177 rfl lV ?_)|(refine pU _ rfl (.tmp 56) rfl c rfl ?_)|(refine o6 _ rfl (.tmp 55) (.tmp 57) rfl w.heap.size _ _ c rfl Ar.o rfl mW.o HB2.o.size ?_));intro v' w' own' g';have b':=ji HB2.o HB2.o.size Ar.o ⟨g'.os,g'.tape,g'.output,g'.size,g'.block⟩;rw[←HC.o]at own';go_wp2_with fail;go_roundw
     case rel=>exact⟨k+1,by omega,by go_num,own',b'⟩
     case measure=>simp[intOf];omega
  ·have ik:¬(k:Int)<(r.length:Int):=by omega
   obtain rfl:k=r.length:=by omega
   rw[←Hq r none,List.take_length]at own;go_wp2_with fail;go_ret;exact⟨_,rfl,own,iB⟩
end Go.Proofs.YtheibfffilomcaaGreatDoor
