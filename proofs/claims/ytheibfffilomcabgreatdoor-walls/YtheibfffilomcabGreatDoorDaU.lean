import Derived.Test.YtheibfffilomcabGreatDoorEvnU
import Derived.Test.YtheibfffilomcabGreatDoorCcU
import Derived.Laws.IdiomCopy
import Derived.Laws.MakeOwn
set_option linter.all false
set_option maxRecDepth 100000
set_option maxHeartbeats 1000000
namespace Go.Proofs.YtheibfffilomcabGreatDoor
open Go.RowKit Go.Proofs.Tryz
variable {w:World} {aa g i:Nat} {Q:Exit→Act→World→Prop} {ops:Array Oper} {rest:List Oper} {a:Act}
theorem oI(g a b n:Nat)(r:List aC)(w:World)(hr:aK w g r)(hn:r.length=n)(hab:a<b)(hb:b≤n)(hl:n≤100):
 Calls prog 185 #[.slice (some ⟨g,0,none⟩) n n,.int .i64 (a:Int),.int .i64 (b:Int)] w fun e w'=>e= .returned (.tuple #[])∧aK w' g (fK r a b)∧Ch (· =g) w w':=by
 subst hn;have i1:(a:Int)≤(b:Int):=by omega
 have i3:a<r.length:=by omega
 have i4:r.length≠a:=by omega
 have i2:(b:Int)≤(r.length:Int):=by omega
 have s1:=dX g a r.length r w hr (by omega);have s2:∀u,aK u g (ay r a)→_:=fun u hu=>dX g b (ay r a).length (ay r a) u hu (by omega);rw[ax]at s2;have hl2:(ay (ay r a) b).length=r.length:=by rw[ax,ax]
 go_enter func185,ntmps185;go_wp2_with (first|(go_at_call 160;refine(jT g (a*7) a (b-a) _ _ _ rfl h2 (by rw[hl2];omega) (by rw[hl2];omega)).mono ?_;rintro e w3 ⟨rfl,h3,c3⟩)|(go_at_call 166;refine(s2 _ h1).mono ?_;rintro e w2 ⟨rfl,h2,c2⟩)|(go_at_call 166;refine s1.mono ?_;rintro e w1 ⟨rfl,h1,c1⟩));go_end0;exact⟨rfl,h3,(c1.trans c2).trans c3⟩
theorem rY{o:Oper}(u:World)(hgd:o.guard=none)(ty:TypeId)(hsz:(prog.info? ty).map (·.size)=some 1)(x y:Operand)(ho:o.op= .store ty x y)(g j:Nat)(L L':List Value)(v:Value)(hj:j<L.length)(hx:a.eval x= .pointer (some ⟨g,j,none⟩))(hy:a.eval y=v)(h1:v.oneCell'=true)(hv:v.cells= #[v])(hL:L.set j v=L')(t:TypeId)(hg:u.heap[g]? =some (.cells L.toArray t (0,0)))(h:∀u',u'.heap[g]? =some (.cells L'.toArray t (0,0))→Ch (· =g) u u'→u'.heap.size=u.heap.size→wpList prog ops Q rest (a.put o.dst undef) u'):wpList prog ops Q (o::rest) a u:=by
 have hc:u.cell? ⟨g,j,none⟩=some L[j]:=by rw[dJ _ _ _ _ _ _ hg];simp[hj]
 have hf:=ou u g j _ t hg;refine sI hgd fun K hK=>?_;have hset:L.toArray.setIfInBounds j v=L'.toArray:=by rw[←hL];simp
 have R:=hK _ _ (h (u.setCell ⟨g,j,none⟩ v) (by rw[wS u g j _ t _ hg,hset]) ((Ch.refl _ _).set _ _ _ (fun _=>rfl)) (by simp[World.setCell]));have hs:(sizeOf ty).run prog u= .ok 1 u:=by
  cases hq:prog.info? ty with
  |none=>simp[hq]at hsz
  |some i=>
   have:i.size=1:=by simpa[hq]using hsz
   simp[sizeOf,typeInfo,hq,this]
 have hst:(storeVar ty ⟨g,j,none⟩ v).run prog u= .ok () (u.setCell ⟨g,j,none⟩ v):=by
  have e0:∀i,i<[v].length→i=0:=fun i hi=>by simpa using hi
  have h2:=run_storeCells_cells (P:=prog) g j [v] 0 u (fun i hi=>by rw[e0 i hi,wT,hc];rfl) (fun i hi=>by rw[e0 i hi];exact hf) (fun z hz=>by rw[iM]at hz;rw[hz];exact h1);simp only[storeVar,kN,hs,kM,hv,Sem.run_ite];simpa[World.setCells]using h2
 unfold Oper.wp execOp;simp only[ho,hx,hy,Instr.storeAt,Instr.sureAddr,kN,qg,kM,hst];exact R
theorem uS:∀(r:List aC) (i:Nat),(iw r)[i]? =(r[i / 7]?).bind fun c=>(cellV c)[i % 7]?
 | [],i=>by simp[iw]
 |c::r,i=>by
  rw[iw];by_cases h:i<7
  ·rw[DK (by rw[cK];exact h),Nat.div_eq_of_lt h,Nat.mod_eq_of_lt h];rfl
  ·rw[wP (by rw[cK];omega),cK,uS r,show i / 7=(i-7) / 7+1 by omega,show i % 7=(i-7) % 7 by omega,R4]
theorem LX(r:List aC)(k:Nat)(c:aC)(p:Int)(h:r[k]? =some c):(iw r).set (k*7+6) (.int .i64 p)=iw (r.set k ⟨c.r,c.p,p⟩):=by
 apply List.ext_getElem?;intro i;have hk:=(ja.1 h).1;rw[Az,uS,uS,bP,Az];by_cases hi:k*7+6=i
 ·subst hi;rw[aS rfl,aS (by omega),aS (by omega),aS hk,show(k*7+6) % 7=6 by omega];rfl
 ·rw[aG hi];by_cases hq:k=i / 7
  ·rw[aS hq,aS hk, ←hq,h];have:i % 7<6:=by omega
   simp only[DR,cellV];rcases(show i % 7=0∨i % 7=1∨i % 7=2∨i % 7=3∨i % 7=4∨i % 7=5 by omega)with e|e|e|e|e|e<;>rw[e]<;>rfl
  ·rw[aG hq]
theorem vL:(prog.info? 3).map (·.size)=some 1:=by kernel_rfl
theorem tJ:(prog.info? 4).map (·.size)=some 1:=by kernel_rfl
theorem iP:(prog.info? 102).map (·.size)=some 5:=by kernel_rfl
theorem Qh{o:Oper}(u:World)(hgd:o.guard=none)(x:Operand)(ho:o.op= .load 102 x)(g:Nat)(p:fO)(hx:a.eval x= .pointer (some ⟨g,0,none⟩))(t:TypeId)(fr:Nat × Nat)(hg:u.heap[g]? =some (.cells (gI p) t fr))(h:wpList prog ops Q rest (a.put o.dst (.agg #[.bool p.b,.bool p.u,.bool p.t,.int .i64 p.f,.int .i64 p.k])) u):wpList prog ops Q (o::rest) a u:=
 jb hgd 102 x ho g hx t (gI p) fr _ hg underlying102 rfl (by exact iP) h
theorem Kg(g a wd n:Nat)(c:Int)(p:fO)(r:List aC)(w:World)(hr:aK w g r)(hn:r.length=n)(hw:wd=1∨wd=2)(ha:a+wd≤n)(hl:n≤100):
 Calls prog 125 #[.slice (some ⟨g,0,none⟩) n n,.int .i64 (a:Int),.int .i64 c,.int .i64 (wd:Int),.agg (gI p)] w fun e w'=>e= .returned (.tuple #[])∧aK w' g (tL r a c wd p)∧Ch (· =g) w w':=by
 subst hn;change Calls prog 125 #[.slice (some ⟨g,0,none⟩) r.length r.length,.int .i64 (a:Int),.int .i64 c,.int .i64 (wd:Int),.agg #[.bool p.b,.bool p.u,.bool p.t,.int .i64 p.f,.int .i64 p.k]] w _;have hg:=hr.lt;have s1:∀u,aK u g r→_:=fun u hu=>dX g a r.length r u hu (by omega);have s2:∀u,aK u g (ay r a)→_:=fun u hu=>dX g (a+wd) (ay r a).length (ay r a) u hu (by omega);rw[ax]at s2;have hl2:(ay (ay r a) (a+wd)).length=r.length:=by rw[ax,ax]
 have hpt:tL r a c wd p=if wd=2 then((ay (ay r a) (a+wd)).set a ⟨c,p,1⟩).set (a+1) ⟨0,p,2⟩else(ay (ay r a) (a+wd)).set a ⟨c,p,0⟩:=rfl;generalize tL r a c wd p=X at*;generalize ay (ay r a) (a+wd)=q at*;have HX:Hid _:=hpt;have HL:Hid _:=hl2;have HW:Hid _:=hw;have w1':IntKind.i64.wrap ((a:Int)+(wd:Int))=(a:Int)+(wd:Int):=bV _ (by omega);have i1:(a:Int)<(r.length:Int):=by omega
 have HR:Hid (aK (w.alloc (.cells (gI p) 102)) g r):=hr.kept (h_ _ _ _ hg);have HC:Hid (Ch (· =g) w (w.alloc (.cells (gI p) 102))):=(Ch.refl _ _).alloc _;have HP:Hid ((w.alloc (.cells (gI p) 102)).heap[w.heap.size]? =some (.cells (gI p) 102 (0,0))):=bJ _ _;clear hpt hl2 hw hr;go_enter func125,ntmps125;go_wp2_with (first|(go_at_call 166;refine(s2 _ h1).mono ?_;rintro e w2 ⟨rfl,h2,c2⟩)|(go_at_call 166;refine(s1 _ HR.o).mono ?_;rintro e w1 ⟨rfl,h1,c1⟩;clear HR)|(refine Qh _ rfl (.tmp 9) rfl w.heap.size p rfl 102 (0,0) ((c2.block _ (by have:=c1.size;simp at this;omega) (by omega)).trans ((c1.block _ (by simp) (by omega)).trans HP.o)) ?_)|(refine pq _ rfl (.tmp 23) (.tmp 22) rfl g (a*7) a q ⟨c,p,0⟩ rfl rfl _ rfl rfl h2 (by rw[HL.o];omega) ?_));intro u3 h3 c3 z3;have HR3:Hid (aK u3 g (q.set a ⟨c,p,0⟩)):=h3;have xJ:Hid (Ch (· =g) w u3):=((HC.o.trans c1).trans c2).trans c3;clear h3 h2 h1 c1 c2 c3 z3 HC HP s1 s2;rcases HW.o with rfl|rfl
 ·go_wp2_with fail;go_end0;exact⟨rfl,by rw[HX.o];exact HR3.o,xJ.o⟩
 ·have UQ:q.length=r.length:=HL.o;have e1:(iw (q.set a ⟨c,p,0⟩)).set (a*7+6) (.int .i64 1)=iw (q.set a ⟨c,p,1⟩):=by rw[LX (q.set a ⟨c,p,0⟩) a ⟨c,p,0⟩ 1 (by rw[Az,aS rfl,aS (by omega)]),List.set_set]
  have E1:Hid _:=e1;have i2:(a:Int)+1<(r.length:Int):=by omega
  have w2':IntKind.i64.wrap ((a:Int)+1)=(a:Int)+1:=bV _ (by omega);clear e1 UQ w1';go_wp2_with (refine rY _ rfl 3 vL (.tmp 29) _ rfl g (a*7+6) (iw (q.set a ⟨c,p,0⟩)) _ (.int .i64 1) (by rw[bP,qB,HL.o];omega) rfl rfl rfl rfl E1.o 104 HR3.o ?_);intro u4 h4 c4 z4;have HR4:Hid (aK u4 g (q.set a ⟨c,p,1⟩)):=h4;have Wm:Hid (Ch (· =g) w u4):=xJ.o.trans c4;clear h4 c4 z4 HR3 xJ E1;go_wp2_with (first|(refine zQ _ rfl (.tmp 35) rfl g (a*7) a (q.set a ⟨c,p,1⟩) ⟨c,p,1⟩ rfl rfl HR4.o (by rw[Az,aS rfl,aS (by rw[HL.o];omega)]) ?_)|(go_at_call 167;refine(F4 ⟨c,p,1⟩ _).mono ?_;rintro e w5 ⟨rfl,b5⟩)|(refine pq _ rfl (.tmp 38) (.tmp 37) rfl g ((a+1)*7) (a+1) (q.set a ⟨c,p,1⟩) ⟨0,p,2⟩ rfl rfl _ rfl rfl (HR4.o.kept (b5.block g HR4.o.lt)) (by rw[qB,HL.o];omega) ?_));intro u6 h6 c6 z6;go_wp2_with fail;go_end0;exact⟨rfl,by rw[HX.o];exact h6,(Wm.o.trans (Ch.of_below b5)).trans c6⟩
theorem L8(w:World)(dT sT ty elem:TypeId)(b o dLen dCap:Nat)(a:Addr)(sLen sCap m:Nat)(cs:List Value)(hu:prog.underlying dT=some (.slice elem))(hs:(prog.info? elem).map (·.size)=some m)(hn:cs.length=Nat.min sLen dLen*m)(hsrc:∀j v,cs[j]? =some v→w.cell? (a.add j)=some v)(hc:∀j,j<cs.length→(w.cell? ⟨b,o+j,none⟩).isSome=true)(hf:∀j,j<cs.length→w.frozen? ⟨b,o+j,none⟩=false)(h1:∀v∈cs,v.oneCell'=true):
 (Builtin.copy_ #[dT,sT] ty #[.slice (some ⟨b,o,none⟩) dLen dCap,.slice (some a) sLen sCap]).run prog w= .ok (goInt (Nat.min sLen dLen)) (w.setCells b o cs):=by
 have hl:=run_loadCells_list (P:=prog) w a cs hsrc;have hst:=run_storeCells_cells (P:=prog) b o cs 0 w (by simpa using hc) (by simpa using hf) h1;cases hq:prog.info? elem with
 |none=>simp[hq]at hs
 |some i=>
  have hi:i.size=m:=by simpa[hq]using hs
  simp[Builtin.copy_,run_underlying hu,Builtin.lenOf,Builtin.firstCells,sizeOf,typeInfo,hq,hi, ←hn,hl,hst]
theorem LZ(w:World)(dT sT ty elem:TypeId)(d a:Option Addr)(dLen dCap sLen sCap m:Nat)(hu:prog.underlying dT=some (.slice elem))(hs:(prog.info? elem).map (·.size)=some m)(hn:Nat.min sLen dLen=0):
 (Builtin.copy_ #[dT,sT] ty #[.slice d dLen dCap,.slice a sLen sCap]).run prog w= .ok (goInt 0) w:=by
 cases hq:prog.info? elem with
 |none=>simp[hq]at hs
 |some i=>
  have hl:∀(x:Addr),(loadCells x 0).run prog w= .ok #[] w:=fun x=>by simpa using run_loadCells_list (P:=prog) w x [] (by simp)
  cases d<;>cases a<;>simp[Builtin.copy_,run_underlying hu,Builtin.lenOf,Builtin.firstCells,sizeOf,typeInfo,hq,hn,storeCells,hl]
theorem kY{o:Oper}{l:List Value}{ds:List Deferred}{u:World}{K:Act→World→Prop}(d:Nat)(x y:Operand)(ho:o.op= .call {callee:=.builtin .copy,args:=#[x,y],argTypes:=#[186,186]})(hd:o.dst=some d)(dp sp:Option Addr)(dn dc sn sc:Nat)(hx:Act.eval ⟨l.toArray,ds⟩ x= .slice dp dn dc)(hy:Act.eval ⟨l.toArray,ds⟩ y= .slice sp sn sc)(g g2 da sa k:Nat)(r r2:List aC)(hr:aK u g r)(hr2:aK u g2 r2)(hk:k=min sn dn)(hd1:da+k≤r.length)(hs1:sa+k≤r2.length)(hp:0<k→dp=some ⟨g,da*7,none⟩∧sp=some ⟨g2,sa*7,none⟩)(h:∀u',aK u' g (gY r da ((r2.drop sa).take k))→Ch (· =g) u u'→K ⟨(l.set d (goInt k)).toArray,ds⟩ u'):Oper.wp prog o ⟨l.toArray,ds⟩ u K Q:=by
 have UQ:((r2.drop sa).take k).length=k:=by rw[jJ,wR];omega
 by_cases h0:k=0
 ·have hrun:=LZ u 186 186 o.type 104 dp sp dn dc sn sc 7 underlying186 eF (show min sn dn=0 by omega);have R:=h u (by subst h0;simpa[gY]using hr) (Ch.refl _ _);subst h0;unfold Oper.wp;simp[execOp,ho,resolve,invoke,builtin,hx,hy,hrun,Result.andThen,Oper.upon_value,Act.put,hd];simpa using R
 ·obtain⟨rfl,rfl⟩:=hp (by omega);have hadd:∀j,(⟨g2,sa*7,none⟩:Addr).add j=⟨g2,sa*7+j,none⟩:=fun j=>by unfold Addr.add;split<;>simp_all
  have hrun:=L8 u 186 186 o.type 104 g (da*7) dn dc ⟨g2,sa*7,none⟩ sn sc 7 (iw ((r2.drop sa).take k)) underlying186 eF (by rw[bP,UQ,hk])
   (fun j v hv=>by
     have hj:j<k*7:=by have:=(ja.1 hv).1;rw[bP,UQ]at this;exact this
     rw[←vS, ←rT,qA,aS hj,qC]at hv
     rw[hadd,hr2.cell];exact hv)
   (fun j hj=>by rw[bP,UQ]at hj;rw[hr.cell,gK (by rw[bP];omega)];rfl)
   (fun j _=>ou _ _ _ _ _ hr) (Fj _)
  have hz:=size_setCells g (iw ((r2.drop sa).take k)) (da*7) u;have R:=h _ (Kh hr da ((r2.drop sa).take k) (by rw[UQ];exact hd1)) ⟨hz.2.1,hz.2.2.1,hz.2.2.2,by omega,fun i _ hn=>fV g _ _ _ i hn⟩;rw[show Nat.min sn dn=k from hk.symm]at hrun;unfold Oper.wp;simp[execOp,ho,resolve,invoke,builtin,hx,hy,hrun,Result.andThen,Oper.upon_value,Act.put,hd];simpa using R
theorem yX(g a n len:Nat)(r:List aC)(w:World)(hr:aK w g r)(hlen:r.length=len)(ha:a<len)(hn:n≤70000)(hl:len≤100):
 Calls prog 124 #[.slice (some ⟨g,0,none⟩) len len,.int .i64 (a:Int),.int .i64 (n:Int)] w fun e w'=>e= .returned (.tuple #[])∧aK w' g (fQ r a n)∧Ch (· =g) w w':=by
 by_cases hm:n<len-a
 ·have hi:fQ r a n=uF r a n:=by rw[fQ,yl (by omega)]
  have hcopy:uF r a n=gQ (gY (ay (ay r a) (len-n)) (a+n) (((ay (ay r a) (len-n)).drop a).take (len-(a+n)))) a n:=by rw[uF,hlen]
  rw[hi,hcopy];have hq:(ay (ay r a) (len-n)).length=len:=by rw[ax,ax,hlen]
  have s1:=dX g a len r w hr (by omega);have s2:∀u,aK u g (ay r a)→_:=fun u hu=>dX g (len-n) len (ay r a) u hu (by omega);rw[ax,hlen]at s2;rw[hlen]at s1;generalize ay (ay r a) (len-n)=q at*;have EA:(gY q (a+n) ((q.drop a).take (len-(a+n)))).length=len:=by rw[gP _ _ _ (by simp;omega),hq]
  have HQ:Hid _:=hq;have HL:Hid _:=EA;have e1:(len:Int)-(a:Int)=((len-a:Nat):Int):=by omega
  have v1:IntKind.i64.wrap ((len-a:Nat):Int)=((len-a:Nat):Int):=bV _ (by omega);have e2:(len:Int)-(n:Int)=((len-n:Nat):Int):=by omega
  have v2:IntKind.i64.wrap ((len-n:Nat):Int)=((len-n:Nat):Int):=bV _ (by omega);have v3:IntKind.i64.wrap ((a:Int)+(n:Int))=(a:Int)+(n:Int):=bV _ (by omega);have i1:(n:Int)<((len-a:Nat):Int):=by omega
  have i3:a+n<len:=by omega
  have i4:a<len:=ha;have i5:len≠a:=by omega
  have i6:len≠a+n:=by omega
  have t1:((a:Int)+(n:Int)).toNat=a+n:=by omega
  have j1:(0:Int)≤(a:Int)+(n:Int):=by omega
  have j2:(a:Int)+(n:Int)≤(len:Int):=by omega
  clear hi hcopy hq EA hr;go_enter func124,ntmps124;go_wp2_with (first|(go_at_call 166;refine(s2 _ h1).mono ?_;rintro e w2 ⟨rfl,h2,c2⟩)|(go_at_call 166;refine s1.mono ?_;rintro e w1 ⟨rfl,h1,c1⟩));have HR:Hid (aK w2 g q):=h2;have HC:Hid (Ch (· =g) w w2):=c1.trans c2;clear h1 h2 c1 c2 s1 s2;have HS:aK ({w2 with drawn:=w2.drawn+1}:World) g q:=HR.o;refine fJ (S:=fun x=>aK x g q∨aK x g (gY q (a+n) ((q.drop a).take (len-(a+n))))) bI ?_;refine ak 0 (Or.inl HS) ?_ (v:=.slice (some ⟨g,0,none⟩) len len);refine ak 1 (Or.inl HS) ?_ (v:=.int .i64 (a:Int));refine ak 2 (Or.inl HS) ?_ (v:=.int .i64 (n:Int));refine ak 3 (Or.inl HS) ?_ (v:=.int .i64 ((a:Int)+(n:Int)));simp only[ah,ag];refine ak 4 (Or.inl HS) ?_ (v:=.slice (some ⟨g,(a+n)*7,none⟩) (len-(a+n)) (len-(a+n)));refine ak 5 (Or.inl HS) ?_ (v:=.slice (some ⟨g,0,none⟩) len len);refine ak 6 (Or.inl HS) ?_ (v:=.int .i64 (a:Int));refine ak 7 (Or.inl HS) ?_ (v:=.slice (some ⟨g,a*7,none⟩) (len-a) (len-a));simp only[ah,ag];refine wpAnyH_all (rs:=[8]) (by kernel_rfl) (by simp) ?_;intro i hi;rw[iM]at hi;subst hi;refine gW ?_;refine kY 29 (.tmp 25) (.tmp 28) rfl rfl _ _ _ _ _ _ rfl rfl g g (a+n) a (len-(a+n)) q q HS HS (by omega) (by rw[HQ.o];omega) (by rw[HQ.o];omega) (fun _=>⟨rfl,rfl⟩) ?_;intro u3 h3 c3;refine⟨Or.inr h3,?_⟩;clear HS HR;simp only[ah,ag];have HR3:Hid (aK u3 g (gY q (a+n) ((q.drop a).take (len-(a+n))))):=h3;have xJ:Hid (Ch (· =g) w u3):=HC.o.trans ((Ch.refl (· =g) w2).trans ⟨c3.os,c3.tape,c3.output,c3.size,c3.block⟩);clear h3 c3 HC;refine aM ?_;go_wp2_with (go_at_call 160;refine(jT g (a*7) a (n) _ _ _ rfl HR3.o (by rw[HL.o];omega) (by rw[HL.o];omega)).mono ?_;rintro e w4 ⟨rfl,h4,c4⟩);go_end0;exact⟨rfl,h4,xJ.o.trans c4⟩
 ·obtain⟨m,hm2⟩:∃m,len=a+m:=⟨len-a,by omega⟩;rcases(show m<n∨m=n by omega)with hmn|hmn
  ·have k1:¬n≤m:=by omega
   have k3:¬(n:Int)≤(m:Int):=by omega
   have hi:fQ r a n=uF r a m:=by rw[fQ,hlen,ym (by omega),hm2,Nat.add_sub_cancel_left]
   have hcopy:uF r a m=gQ (gY (ay (ay r a) a) (a+m) (((ay (ay r a) a).drop a).take (len-(a+m)))) a m:=by rw[uF,hlen,show len-m=a by omega]
   rw[hi,hcopy];have hq:(ay (ay r a) a).length=len:=by rw[ax,ax,hlen]
   have s1:=dX g a len r w hr (by omega);have s2:∀u,aK u g (ay r a)→_:=fun u hu=>dX g a len (ay r a) u hu (by omega);rw[ax,hlen]at s2;rw[hlen]at s1;generalize ay (ay r a) a=q at*;have EA:(gY q (a+m) ((q.drop a).take (len-(a+m)))).length=len:=by rw[gP _ _ _ (by simp;omega),hq]
   have HQ:Hid _:=hq;have HL:Hid _:=EA;have e1:(len:Int)-(a:Int)=(m:Int):=by omega
   have v1:IntKind.i64.wrap (m:Int)=(m:Int):=bV _ (by omega);have e2:(len:Int)-(m:Int)=(a:Int):=by omega
   have v2:IntKind.i64.wrap (a:Int)=(a:Int):=bV _ (by omega);have v3:IntKind.i64.wrap (len:Int)=(len:Int):=bV _ (by omega);have i1:(m:Int)≤(n:Int):=by omega
   have i4:a<len:=ha;have i5:len≠a:=by omega
   have i6:(a:Int)+(m:Int)=(len:Int):=by omega
   have e3:len-a=m:=by omega
   have HM:Hid _:=hm2;clear hm2;clear hi hcopy hq EA hr;go_enter func124,ntmps124;go_wp2_with (first|(go_at_call 166;refine(s2 _ h1).mono ?_;rintro e w2 ⟨rfl,h2,c2⟩)|(go_at_call 166;refine s1.mono ?_;rintro e w1 ⟨rfl,h1,c1⟩));have HR:Hid (aK w2 g q):=h2;have HC:Hid (Ch (· =g) w w2):=c1.trans c2;clear h1 h2 c1 c2 s1 s2;have HS:aK ({w2 with drawn:=w2.drawn+1}:World) g q:=HR.o;refine fJ (S:=fun x=>aK x g q∨aK x g (gY q (a+m) ((q.drop a).take (len-(a+m))))) bI ?_;refine ak 0 (Or.inl HS) ?_ (v:=.slice (some ⟨g,0,none⟩) len len);refine ak 1 (Or.inl HS) ?_ (v:=.int .i64 (a:Int));refine ak 2 (Or.inl HS) ?_ (v:=.int .i64 (m:Int));refine ak 3 (Or.inl HS) ?_ (v:=.int .i64 (len:Int));simp only[ah,ag];refine ak 4 (Or.inl HS) ?_ (v:=.slice (some ⟨g,0,none⟩) 0 0);refine ak 5 (Or.inl HS) ?_ (v:=.slice (some ⟨g,0,none⟩) len len);refine ak 6 (Or.inl HS) ?_ (v:=.int .i64 (a:Int));refine ak 7 (Or.inl HS) ?_ (v:=.slice (some ⟨g,a*7,none⟩) m m);simp only[ah,ag];refine wpAnyH_all (rs:=[8]) (by kernel_rfl) (by simp) ?_;intro i hi;rw[iM]at hi;subst hi;refine gW ?_;have hm2:len=a+m:=HM.o;refine kY 29 (.tmp 25) (.tmp 28) rfl rfl _ _ _ _ _ _ rfl rfl g g (a+m) a (len-(a+m)) q q HS HS (by omega) (by rw[HQ.o];omega) (by rw[HQ.o];omega) (fun h=>by omega) ?_;intro u3 h3 c3;refine⟨Or.inr h3,?_⟩;clear HS HR hm2;simp only[ah,ag];have HR3:Hid (aK u3 g (gY q (a+m) ((q.drop a).take (len-(a+m))))):=h3;have xJ:Hid (Ch (· =g) w u3):=HC.o.trans ((Ch.refl (· =g) w2).trans ⟨c3.os,c3.tape,c3.output,c3.size,c3.block⟩);clear h3 c3 HC;refine aM ?_;go_wp2_with (go_at_call 160;refine(jT g (a*7) a m _ _ _ rfl HR3.o (by rw[HL.o];exact Nat.le_of_eq HM.o.symm) (by rw[HL.o];omega)).mono ?_;rintro e w4 ⟨rfl,h4,c4⟩);go_end0;exact⟨rfl,h4,xJ.o.trans c4⟩
  ·subst hmn;have hi:fQ r a m=uF r a m:=by rw[fQ,hlen,ym (by omega),hm2,Nat.add_sub_cancel_left]
   have hcopy:uF r a m=gQ (gY (ay (ay r a) a) (a+m) (((ay (ay r a) a).drop a).take (len-(a+m)))) a m:=by rw[uF,hlen,show len-m=a by omega]
   rw[hi,hcopy];have hq:(ay (ay r a) a).length=len:=by rw[ax,ax,hlen]
   have s1:=dX g a len r w hr (by omega);have s2:∀u,aK u g (ay r a)→_:=fun u hu=>dX g a len (ay r a) u hu (by omega);rw[ax,hlen]at s2;rw[hlen]at s1;generalize ay (ay r a) a=q at*;have EA:(gY q (a+m) ((q.drop a).take (len-(a+m)))).length=len:=by rw[gP _ _ _ (by simp;omega),hq]
   have HQ:Hid _:=hq;have HL:Hid _:=EA;have e1:(len:Int)-(a:Int)=(m:Int):=by omega
   have v1:IntKind.i64.wrap (m:Int)=(m:Int):=bV _ (by omega);have e2:(len:Int)-(m:Int)=(a:Int):=by omega
   have v2:IntKind.i64.wrap (a:Int)=(a:Int):=bV _ (by omega);have v3:IntKind.i64.wrap (len:Int)=(len:Int):=bV _ (by omega);have i4:a<len:=ha;have i5:len≠a:=by omega
   have i6:(a:Int)+(m:Int)=(len:Int):=by omega
   have e3:len-a=m:=by omega
   have HM:Hid _:=hm2;clear hm2;clear hi hcopy hq EA hr;go_enter func124,ntmps124;go_wp2_with (first|(go_at_call 166;refine(s2 _ h1).mono ?_;rintro e w2 ⟨rfl,h2,c2⟩)|(go_at_call 166;refine s1.mono ?_;rintro e w1 ⟨rfl,h1,c1⟩));have HR:Hid (aK w2 g q):=h2;have HC:Hid (Ch (· =g) w w2):=c1.trans c2;clear h1 h2 c1 c2 s1 s2;have HS:aK ({w2 with drawn:=w2.drawn+1}:World) g q:=HR.o;refine fJ (S:=fun x=>aK x g q∨aK x g (gY q (a+m) ((q.drop a).take (len-(a+m))))) bI ?_;refine ak 0 (Or.inl HS) ?_ (v:=.slice (some ⟨g,0,none⟩) len len);refine ak 1 (Or.inl HS) ?_ (v:=.int .i64 (a:Int));refine ak 2 (Or.inl HS) ?_ (v:=.int .i64 (m:Int));refine ak 3 (Or.inl HS) ?_ (v:=.int .i64 (len:Int));simp only[ah,ag];refine ak 4 (Or.inl HS) ?_ (v:=.slice (some ⟨g,0,none⟩) 0 0);refine ak 5 (Or.inl HS) ?_ (v:=.slice (some ⟨g,0,none⟩) len len);refine ak 6 (Or.inl HS) ?_ (v:=.int .i64 (a:Int));refine ak 7 (Or.inl HS) ?_ (v:=.slice (some ⟨g,a*7,none⟩) m m);simp only[ah,ag];refine wpAnyH_all (rs:=[8]) (by kernel_rfl) (by simp) ?_;intro i hi;rw[iM]at hi;subst hi;refine gW ?_;have hm2:len=a+m:=HM.o;refine kY 29 (.tmp 25) (.tmp 28) rfl rfl _ _ _ _ _ _ rfl rfl g g (a+m) a (len-(a+m)) q q HS HS (by omega) (by rw[HQ.o];omega) (by rw[HQ.o];omega) (fun h=>by omega) ?_;intro u3 h3 c3;refine⟨Or.inr h3,?_⟩;clear HS HR hm2;simp only[ah,ag];have HR3:Hid (aK u3 g (gY q (a+m) ((q.drop a).take (len-(a+m))))):=h3;have xJ:Hid (Ch (· =g) w u3):=HC.o.trans ((Ch.refl (· =g) w2).trans ⟨c3.os,c3.tape,c3.output,c3.size,c3.block⟩);clear h3 c3 HC;refine aM ?_;go_wp2_with (go_at_call 160;refine(jT g (a*7) a m _ _ _ rfl HR3.o (by rw[HL.o];exact Nat.le_of_eq HM.o.symm) (by rw[HL.o];omega)).mono ?_;rintro e w4 ⟨rfl,h4,c4⟩);go_end0;exact⟨rfl,h4,xJ.o.trans c4⟩
theorem Ij(g a n len:Nat)(r:List aC)(w:World)(hr:aK w g r)(hlen:r.length=len)(ha:a<len)(hn:n≤70000)(hn1:1≤n)(hl:len≤100):
 Calls prog 184 #[.slice (some ⟨g,0,none⟩) len len,.int .i64 (a:Int),.int .i64 (n:Int)] w fun e w'=>e= .returned (.tuple #[])∧aK w' g (iI r a n)∧Ch (· =g) w w':=by
 by_cases hm:n<len-a
 ·have hi:iI r a n=uQ r a n:=by rw[iI,yl (by omega)]
  have hcopy:uQ r a n=gQ (gY (ay (ay r a) (a+n)) a (((ay (ay r a) (a+n)).drop (a+n)).take (len-(a+n)))) (len-n) n:=by have hd:(((ay (ay r a) (a+n)).drop (a+n)).take (len-(a+n)))=(ay (ay r a) (a+n)).drop (a+n):=sG (by rw[wR,ax,ax,hlen];omega);rw[uQ,hlen,hd]
  rw[hi,hcopy];have hq:(ay (ay r a) (a+n)).length=len:=by rw[ax,ax,hlen]
  have s1:=dX g a len r w hr (by omega);have s2:∀u,aK u g (ay r a)→_:=fun u hu=>dX g (a+n) len (ay r a) u hu (by omega);rw[ax,hlen]at s2;rw[hlen]at s1;generalize ay (ay r a) (a+n)=q at*;have EA:(gY q a ((q.drop (a+n)).take (len-(a+n)))).length=len:=by rw[gP _ _ _ (by simp;omega),hq]
  have HQ:Hid _:=hq;have HL:Hid _:=EA;have e1:(len:Int)-(a:Int)=((len-a:Nat):Int):=by omega
  have v1:IntKind.i64.wrap ((len-a:Nat):Int)=((len-a:Nat):Int):=bV _ (by omega);have e2:(len:Int)-(n:Int)=((len-n:Nat):Int):=by omega
  have v2:IntKind.i64.wrap ((len-n:Nat):Int)=((len-n:Nat):Int):=bV _ (by omega);have v3:IntKind.i64.wrap ((a:Int)+(n:Int))=(a:Int)+(n:Int):=bV _ (by omega);have i1:(n:Int)<((len-a:Nat):Int):=by omega
  have i3:a+n<len:=by omega
  have i4:a<len:=ha;have i5:len≠a:=by omega
  have i6:len≠a+n:=by omega
  have i7:len≠len-n:=by omega
  have i8:len-(len-n)=n:=by omega
  have t1:((a:Int)+(n:Int)).toNat=a+n:=by omega
  have j1:(0:Int)≤(a:Int)+(n:Int):=by omega
  have j2:(a:Int)+(n:Int)≤(len:Int):=by omega
  clear hi hcopy hq EA hr;go_enter func184,ntmps184;go_wp2_with (first|(go_at_call 166;refine(s2 _ h1).mono ?_;rintro e w2 ⟨rfl,h2,c2⟩)|(go_at_call 166;refine s1.mono ?_;rintro e w1 ⟨rfl,h1,c1⟩));have HR:Hid (aK w2 g q):=h2;have HC:Hid (Ch (· =g) w w2):=c1.trans c2;clear h1 h2 c1 c2 s1 s2;have HS:aK ({w2 with drawn:=w2.drawn+1}:World) g q:=HR.o;refine fJ (S:=fun x=>aK x g q∨aK x g (gY q a ((q.drop (a+n)).take (len-(a+n))))) bI ?_;refine ak 0 (Or.inl HS) ?_ (v:=.slice (some ⟨g,0,none⟩) len len);refine ak 1 (Or.inl HS) ?_ (v:=.int .i64 (a:Int));refine ak 2 (Or.inl HS) ?_ (v:=.slice (some ⟨g,a*7,none⟩) (len-a) (len-a));refine ak 3 (Or.inl HS) ?_ (v:=.slice (some ⟨g,0,none⟩) len len);simp only[ah,ag];refine ak 4 (Or.inl HS) ?_ (v:=.int .i64 (a:Int));refine ak 5 (Or.inl HS) ?_ (v:=.int .i64 (n:Int));refine ak 6 (Or.inl HS) ?_ (v:=.int .i64 ((a:Int)+(n:Int)));refine ak 7 (Or.inl HS) ?_ (v:=.slice (some ⟨g,(a+n)*7,none⟩) (len-(a+n)) (len-(a+n)));simp only[ah,ag];refine wpAnyH_all (rs:=[8]) (by kernel_rfl) (by simp) ?_;intro i hi;rw[iM]at hi;subst hi;refine gW ?_;refine kY 28 (.tmp 22) (.tmp 27) rfl rfl _ _ _ _ _ _ rfl rfl g g a (a+n) (len-(a+n)) q q HS HS (by omega) (by rw[HQ.o];omega) (by rw[HQ.o];omega) (fun _=>⟨rfl,rfl⟩) ?_;intro u3 h3 c3;refine⟨Or.inr h3,?_⟩;clear HS HR;simp only[ah,ag];have HR3:Hid (aK u3 g (gY q a ((q.drop (a+n)).take (len-(a+n))))):=h3;have xJ:Hid (Ch (· =g) w u3):=HC.o.trans ((Ch.refl (· =g) w2).trans ⟨c3.os,c3.tape,c3.output,c3.size,c3.block⟩);clear h3 c3 HC;refine aM ?_;go_wp2_with (go_at_call 160;refine(jT g ((len-n)*7) (len-n) n _ _ _ rfl HR3.o (by rw[HL.o];omega) (by rw[HL.o];omega)).mono ?_;rintro e w4 ⟨rfl,h4,c4⟩);go_end0;exact⟨rfl,h4,xJ.o.trans c4⟩
 ·obtain⟨m,hm2⟩:∃m,len=a+m:=⟨len-a,by omega⟩;rcases(show m<n∨m=n by omega)with hmn|hmn
  ·have k1:¬n≤m:=by omega
   have k3:¬(n:Int)≤(m:Int):=by omega
   have hi:iI r a n=uQ r a m:=by rw[iI,hlen,ym (by omega),hm2,Nat.add_sub_cancel_left]
   have hcopy:uQ r a m=gQ (gY (ay (ay r a) len) a (((ay (ay r a) len).drop len).take (len-len))) a m:=by have hd:(((ay (ay r a) len).drop len).take (len-len))=(ay (ay r a) len).drop len:=sG (by rw[wR,ax,ax,hlen];omega);rw[uQ,hlen,show a+m=len by omega,show len-m=a by omega,hd]
   rw[hi,hcopy];have hq:(ay (ay r a) len).length=len:=by rw[ax,ax,hlen]
   have s1:=dX g a len r w hr (by omega);have s2:∀u,aK u g (ay r a)→_:=fun u hu=>dX g len len (ay r a) u hu (by omega);rw[ax,hlen]at s2;rw[hlen]at s1;generalize ay (ay r a) len=q at*;have EA:(gY q a ((q.drop len).take (len-len))).length=len:=by rw[gP _ _ _ (by simp;omega),hq]
   have HQ:Hid _:=hq;have HL:Hid _:=EA;have e1:(len:Int)-(a:Int)=(m:Int):=by omega
   have v1:IntKind.i64.wrap (m:Int)=(m:Int):=bV _ (by omega);have e2:(len:Int)-(m:Int)=(a:Int):=by omega
   have v2:IntKind.i64.wrap (a:Int)=(a:Int):=bV _ (by omega);have v3:IntKind.i64.wrap (len:Int)=(len:Int):=bV _ (by omega);have i4:a<len:=ha;have i5:len≠a:=by omega
   have i6:(a:Int)+(m:Int)=(len:Int):=by omega
   have e3:len-a=m:=by omega
   have HM:Hid _:=hm2;clear hm2;clear hi hcopy hq EA hr;go_enter func184,ntmps184;go_wp2_with (first|(go_at_call 166;refine(s2 _ h1).mono ?_;rintro e w2 ⟨rfl,h2,c2⟩)|(go_at_call 166;refine s1.mono ?_;rintro e w1 ⟨rfl,h1,c1⟩));have HR:Hid (aK w2 g q):=h2;have HC:Hid (Ch (· =g) w w2):=c1.trans c2;clear h1 h2 c1 c2 s1 s2;have HS:aK ({w2 with drawn:=w2.drawn+1}:World) g q:=HR.o;refine fJ (S:=fun x=>aK x g q∨aK x g (gY q a ((q.drop len).take (len-len)))) bI ?_;refine ak 0 (Or.inl HS) ?_ (v:=.slice (some ⟨g,0,none⟩) len len);refine ak 1 (Or.inl HS) ?_ (v:=.int .i64 (a:Int));refine ak 2 (Or.inl HS) ?_ (v:=.slice (some ⟨g,a*7,none⟩) m m);refine ak 3 (Or.inl HS) ?_ (v:=.slice (some ⟨g,0,none⟩) len len);simp only[ah,ag];refine ak 4 (Or.inl HS) ?_ (v:=.int .i64 (a:Int));refine ak 5 (Or.inl HS) ?_ (v:=.int .i64 (m:Int));refine ak 6 (Or.inl HS) ?_ (v:=.int .i64 (len:Int));refine ak 7 (Or.inl HS) ?_ (v:=.slice (some ⟨g,0,none⟩) 0 0);simp only[ah,ag];refine wpAnyH_all (rs:=[8]) (by kernel_rfl) (by simp) ?_;intro i hi;rw[iM]at hi;subst hi;refine gW ?_;have hm2:len=a+m:=HM.o;refine kY 28 (.tmp 22) (.tmp 27) rfl rfl _ _ _ _ _ _ rfl rfl g g a len (len-len) q q HS HS (by omega) (by rw[HQ.o];omega) (by rw[HQ.o];omega) (fun h=>by omega) ?_;intro u3 h3 c3;refine⟨Or.inr h3,?_⟩;clear HS HR hm2;simp only[ah,ag];have HR3:Hid (aK u3 g (gY q a ((q.drop len).take (len-len)))):=h3;have xJ:Hid (Ch (· =g) w u3):=HC.o.trans ((Ch.refl (· =g) w2).trans ⟨c3.os,c3.tape,c3.output,c3.size,c3.block⟩);clear h3 c3 HC;refine aM ?_;go_wp2_with (go_at_call 160;refine(jT g (a*7) a m _ _ _ rfl HR3.o (by rw[HL.o];exact Nat.le_of_eq HM.o.symm) (by rw[HL.o];omega)).mono ?_;rintro e w4 ⟨rfl,h4,c4⟩);go_end0;exact⟨rfl,h4,xJ.o.trans c4⟩
  ·subst hmn;have hi:iI r a m=uQ r a m:=by rw[iI,hlen,ym (by omega),hm2,Nat.add_sub_cancel_left]
   have hcopy:uQ r a m=gQ (gY (ay (ay r a) len) a (((ay (ay r a) len).drop len).take (len-len))) a m:=by have hd:(((ay (ay r a) len).drop len).take (len-len))=(ay (ay r a) len).drop len:=sG (by rw[wR,ax,ax,hlen];omega);rw[uQ,hlen,show a+m=len by omega,show len-m=a by omega,hd]
   rw[hi,hcopy];have hq:(ay (ay r a) len).length=len:=by rw[ax,ax,hlen]
   have s1:=dX g a len r w hr (by omega);have s2:∀u,aK u g (ay r a)→_:=fun u hu=>dX g len len (ay r a) u hu (by omega);rw[ax,hlen]at s2;rw[hlen]at s1;generalize ay (ay r a) len=q at*;have EA:(gY q a ((q.drop len).take (len-len))).length=len:=by rw[gP _ _ _ (by simp;omega),hq]
   have HQ:Hid _:=hq;have HL:Hid _:=EA;have e1:(len:Int)-(a:Int)=(m:Int):=by omega
   have v1:IntKind.i64.wrap (m:Int)=(m:Int):=bV _ (by omega);have e2:(len:Int)-(m:Int)=(a:Int):=by omega
   have v2:IntKind.i64.wrap (a:Int)=(a:Int):=bV _ (by omega);have v3:IntKind.i64.wrap (len:Int)=(len:Int):=bV _ (by omega);have i4:a<len:=ha;have i5:len≠a:=by omega
   have i6:(a:Int)+(m:Int)=(len:Int):=by omega
   have e3:len-a=m:=by omega
   have HM:Hid _:=hm2;clear hm2;clear hi hcopy hq EA hr;go_enter func184,ntmps184;go_wp2_with (first|(go_at_call 166;refine(s2 _ h1).mono ?_;rintro e w2 ⟨rfl,h2,c2⟩)|(go_at_call 166;refine s1.mono ?_;rintro e w1 ⟨rfl,h1,c1⟩));have HR:Hid (aK w2 g q):=h2;have HC:Hid (Ch (· =g) w w2):=c1.trans c2;clear h1 h2 c1 c2 s1 s2;have HS:aK ({w2 with drawn:=w2.drawn+1}:World) g q:=HR.o;refine fJ (S:=fun x=>aK x g q∨aK x g (gY q a ((q.drop len).take (len-len)))) bI ?_;refine ak 0 (Or.inl HS) ?_ (v:=.slice (some ⟨g,0,none⟩) len len);refine ak 1 (Or.inl HS) ?_ (v:=.int .i64 (a:Int));refine ak 2 (Or.inl HS) ?_ (v:=.slice (some ⟨g,a*7,none⟩) m m);refine ak 3 (Or.inl HS) ?_ (v:=.slice (some ⟨g,0,none⟩) len len);simp only[ah,ag];refine ak 4 (Or.inl HS) ?_ (v:=.int .i64 (a:Int));refine ak 5 (Or.inl HS) ?_ (v:=.int .i64 (m:Int));refine ak 6 (Or.inl HS) ?_ (v:=.int .i64 (len:Int));refine ak 7 (Or.inl HS) ?_ (v:=.slice (some ⟨g,0,none⟩) 0 0);simp only[ah,ag];refine wpAnyH_all (rs:=[8]) (by kernel_rfl) (by simp) ?_;intro i hi;rw[iM]at hi;subst hi;refine gW ?_;have hm2:len=a+m:=HM.o;refine kY 28 (.tmp 22) (.tmp 27) rfl rfl _ _ _ _ _ _ rfl rfl g g a len (len-len) q q HS HS (by omega) (by rw[HQ.o];omega) (by rw[HQ.o];omega) (fun h=>by omega) ?_;intro u3 h3 c3;refine⟨Or.inr h3,?_⟩;clear HS HR hm2;simp only[ah,ag];have HR3:Hid (aK u3 g (gY q a ((q.drop len).take (len-len)))):=h3;have xJ:Hid (Ch (· =g) w u3):=HC.o.trans ((Ch.refl (· =g) w2).trans ⟨c3.os,c3.tape,c3.output,c3.size,c3.block⟩);clear h3 c3 HC;refine aM ?_;go_wp2_with (go_at_call 160;refine(jT g (a*7) a m _ _ _ rfl HR3.o (by rw[HL.o];exact Nat.le_of_eq HM.o.symm) (by rw[HL.o];omega)).mono ?_;rintro e w4 ⟨rfl,h4,c4⟩);go_end0;exact⟨rfl,h4,xJ.o.trans c4⟩
abbrev bK:=List (List aC)
def dK (aa:Nat):List aC:=List.replicate aa aQ
def lD (S:bK) (a n:Nat):Nat→bK
 | 0=>S
 |i+1=>(lD S a n i).set (a+i) ((lD S a n i).getD (a+i+n) [])
def fC (S:bK) (a n len:Nat):Nat→bK
 | 0=>S
 |i+1=>(fC S a n len i).set (a+(len-1-i)) ((fC S a n len i).getD (a+(len-1-i)-n) [])
def bF (S:bK) (a aa:Nat):Nat→bK
 | 0=>S
 |i+1=>(bF S a aa i).set (a+i) (dK aa)
def MJ (S:bK) (a len n aa:Nat):bK:=bF (lD S a n (len-min n len)) (a+(len-min n len)) aa (len-(len-min n len))
def oJ (S:bK) (a len n aa:Nat):bK:=bF (fC S a (min n len) len (len-min n len)) a aa (min n len)
theorem jg(S:bK)(a n i:Nat):(lD S a n i).length=S.length:=by induction i with|zero=>rfl|succ i ih=>rw[lD,qB,ih]
theorem ig(S:bK)(a n len i:Nat):(fC S a n len i).length=S.length:=by induction i with|zero=>rfl|succ i ih=>rw[fC,qB,ih]
theorem fG(S:bK)(a aa i:Nat):(bF S a aa i).length=S.length:=by induction i with|zero=>rfl|succ i ih=>rw[bF,qB,ih]
theorem t_(S:bK)(a len n aa:Nat):(MJ S a len n aa).length=S.length:=by rw[MJ,fG,jg]
theorem pK(S:bK)(a len n aa:Nat):(oJ S a len n aa).length=S.length:=by rw[oJ,fG,ig]
def Pk (aa g:Nat):Value:=.slice (some ⟨g,0,none⟩) aa aa
def MZ (aa:Nat) (gs:List Nat):List Value:=gs.map (Pk aa)
structure ShAt (w:World) (sb:Nat) (gs:List Nat) (aa:Nat) (S:bK):Prop where
 blk:w.heap[sb]? =some (.cells (MZ aa gs).toArray 186 (0,0))
 len:gs.length=S.length
 row:∀(i:Nat) (g:Nat) (r:List aC),gs[i]? =some g→S[i]? =some r→aK w g r∧r.length=aa
 nodup:gs.Nodup
 o:sb∉gs
theorem ShAt.lt{w:World}{sb:Nat}{gs:List Nat}{aa:Nat}{S:bK}(h:ShAt w sb gs aa S):sb<w.heap.size:=by
 by_cases hl:sb<w.heap.size
 ·exact hl
 ·have:=h.blk;rw[qh (by omega)]at this;cases this
theorem ShAt.YQ{sb:Nat}{gs:List Nat}{S:bK}(h:ShAt w sb gs aa S)(hg:g∈gs):g<w.heap.size:=by obtain⟨i,hi⟩:=List.getElem?_of_mem hg;have hl:=(ja.1 hi).1;rw[h.len]at hl;exact(h.row i g _ hi (gK hl)).1.lt
theorem ShAt.kept{w w':World}{sb:Nat}{gs:List Nat}{aa:Nat}{S:bK}(h:ShAt w sb gs aa S){P:Nat→Prop}(c:Ch P w w')(h1:¬P sb)(h2:∀g∈gs,¬P g):ShAt w' sb gs aa S:=
 ⟨(c.block sb h.lt h1).trans h.blk,h.len,fun i g r hi hr=>⟨(h.row i g r hi hr).1.kept (c.block g (h.YQ (fu hi)) (h2 g (fu hi))),(h.row i g r hi hr).2⟩,h.nodup,h.o⟩
theorem ShAt.set{w':World}{sb:Nat}{gs:List Nat}{S:bK}(h:ShAt w sb gs aa S){r:List aC}(hi:gs[i]? =some g)(hr:aK w' g r)(hl:r.length=aa)(c:Ch (· =g) w w'):ShAt w' sb gs aa (S.set i r):=by
 have hne:sb≠g:=fun e=>h.o (e▸fu hi);refine⟨(c.block sb h.lt hne).trans h.blk,by rw[qB];exact h.len,fun j g' r' hj hr'=>?_,h.nodup,h.o⟩;rw[Az]at hr';by_cases hij:i=j
 ·subst hij;rw[aS rfl]at hr';split at hr'
  ·cases hr';rw[hi]at hj;cases hj;exact⟨hr,hl⟩
  ·cases hr'
 ·rw[aG hij]at hr';have hg:g'≠g:=fun e=>by subst e;exact hij ((List.getElem?_inj (ja.1 hi).1 h.nodup).1 (hi.trans hj.symm))
  exact⟨(h.row j g' r' hj hr').1.kept (c.block g' (h.YQ (fu hj)) hg),(h.row j g' r' hj hr').2⟩
theorem ShAt.slice{sb:Nat}{gs:List Nat}{S:bK}(h:ShAt w sb gs aa S)(hi:gs[i]? =some g):w.cell? ⟨sb,i,none⟩=some (.slice (some ⟨g,0,none⟩) aa aa):=by rw[dJ _ _ _ _ _ _ h.blk];simp[MZ,hi,Pk]
theorem ShAt.get{sb:Nat}{gs:List Nat}{S:bK}(h:ShAt w sb gs aa S)(hi:i<S.length):∃g,gs[i]? =some g∧w.cell? ⟨sb,i,none⟩=some (.slice (some ⟨g,0,none⟩) aa aa)∧aK w g (S.getD i [])∧(S.getD i []).length=aa:=by
 have hg:i<gs.length:=by rw[h.len];exact hi
 have hr:=h.row i _ _ (gK hg) (gK hi);refine⟨_,gK hg,h.slice (gK hg),?_⟩;simpa[List.getD,gK hi]using hr
theorem Gj(r:List aC)(aa:Nat)(h:r.length=aa):gQ r 0 aa=dK aa:=by simp[gQ,dK,yj (Nat.le_of_eq h)]
theorem lay_all(r r2:List aC)(aa:Nat)(h:r.length=aa)(h2:r2.length=aa):gY r 0 ((r2.drop 0).take aa)=r2:=by rw[List.drop_zero,sG (Nat.le_of_eq h2),gY,List.take_zero,Aw,yj (by omega),Av]
theorem kr(sb a n cap aa:Nat)(gs:List Nat)(S:bK)(w:World)(hs:ShAt w sb gs aa S)(han:a+n≤S.length)(hn:n≤100)(hc:aa≤100):
 Calls prog 227 #[.slice (some ⟨sb,a,none⟩) n cap] w fun e w'=>e= .returned (.tuple #[])∧ShAt w' sb gs aa (bF S a aa n)∧Ch (· ∈gs) w w':=by
 go_enter func227,ntmps227;go_wp2_with fail;go_loopw [6] (fun i wr=>∃k:Nat,k≤n∧i= .int .i64 k∧ShAt wr sb gs aa (bF S a aa k)∧Ch (· ∈gs) w wr) (fun i _=>n-(intOf i).toNat)
 case atStart=>exact⟨0,jy _,rfl,hs,Ch.refl _ _⟩
 case round=>
  obtain⟨k,hk,rfl,lU,hch⟩:=hrel;by_cases hlt:k<n
  ·have ik:(k:Int)<(n:Int):=by omega
   obtain⟨g,hg,hcell,hrow,hlen⟩:=lU.get (i:=a+k) (by rw[fG];omega);have HS:Hid _:=lU;have HC:Hid _:=hch;have HR:Hid (aK wr g ((bF S a aa k).getD (a+k) [])):=hrow;have HL:Hid _:=hlen;have HG:Hid _:=hg;clear lU hch hrow hlen hg;go_wp2_with (go_at_call 160;refine(jT g 0 0 aa _ _ _ rfl HR.o (by rw[HL.o];omega) (by rw[HL.o];omega)).mono ?_;rintro e w1 ⟨rfl,h1,c1⟩);have S2:=HS.o.set HG.o (by rw[Gj _ _ HL.o]at h1;exact h1) (by simp[dK]) c1;have C2:Ch (· ∈gs) w w1:=HC.o.trans (c1.mono fun k _ e=>e▸fu HG.o);clear HS HC HR HL HG h1 c1;go_wp2_with fail;go_roundw
   case rel=>exact⟨k+1,by omega,by go_num,S2,C2⟩
   case measure=>simp[intOf];omega
  ·have hkn:k=n:=by omega
   subst hkn;go_wp2_with fail;go_end0;exact⟨rfl,lU,hch⟩
end Go.Proofs.YtheibfffilomcabGreatDoor
