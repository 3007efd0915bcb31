import Derived.Test.YtheibfffilomcaaGreatDoorTmaU
import Derived.Test.YtheibfffilomcaaGreatDoorCdU
set_option linter.all false
set_option maxRecDepth 100000
set_option maxHeartbeats 1000000
namespace Go.Proofs.YtheibfffilomcaaGreatDoor
open Go.RowKit Go.Proofs.Tryz
variable {Q:Exit→Act→World→Prop}
theorem SH{ops:Array Oper}{rest:List Oper}{o:Oper}{a:Act}(u:World)(hgd:o.guard=none)(x:Operand)(ho:o.op= .load 80 x)(g:Nat)(p:fO)(hx:a.eval x= .pointer (some ⟨g,0,none⟩))(t:TypeId)(fr:Nat × Nat)(hg:u.heap[g]? =some (.cells (aW p) t fr))(h:wpList prog ops Q rest (a.put o.dst (.agg #[.bool p.b,.bool p.u,.bool p.t,.int .i64 p.f,.int .i64 p.k])) u):wpList prog ops Q (o::rest) a u:=
 fC hgd 80 x ho g hx t (aW p) fr _ hg underlying80 rfl (by exact lU) h
theorem Me(g a wd n:Nat)(c:Int)(p:fO)(r:List aI)(w:World)(hr:aV w g r)(hn:r.length=n)(hw:wd=1∨wd=2)(ha:a+wd≤n)(hl:n≤100):
 Calls prog 102 #[.slice (some ⟨g,0,none⟩) n n,.int .i64 (a:Int),.int .i64 c,.int .i64 (wd:Int),.agg (aW p)] w fun e w'=>e= .returned (.tuple #[])∧aV w' g (yC r a c wd p)∧Ch (· =g) w w':=by
 subst hn;change Calls prog 102 #[.slice (some ⟨g,0,none⟩) r.length r.length,.int .i64 (a:Int),.int .i64 c,.int .i64 (wd:Int),.agg #[.bool p.b,.bool p.u,.bool p.t,.int .i64 p.f,.int .i64 p.k]] w _;have hg:=hr.lt;have s1:∀u,aV u g r→_:=fun u hu=>iy g a r.length r u hu (by omega);have s2:∀u,aV u g (aJ r a)→_:=fun u hu=>iy g (a+wd) (aJ r a).length (aJ r a) u hu (by omega);rw[aH]at s2;have hl2:(aJ (aJ r a) (a+wd)).length=r.length:=by rw[aH,aH]
 have hpt:yC r a c wd p=if wd=2 then((aJ (aJ r a) (a+wd)).set a ⟨c,p,1⟩).set (a+1) ⟨0,p,2⟩else(aJ (aJ r a) (a+wd)).set a ⟨c,p,0⟩:=rfl;generalize yC r a c wd p=X at*;generalize aJ (aJ r a) (a+wd)=q at*;have HX:Hid _:=hpt;have HL:Hid _:=hl2;have HW:Hid _:=hw;have w1':IntKind.i64.wrap ((a:Int)+(wd:Int))=(a:Int)+(wd:Int):=bD _ (by omega);have i1:(a:Int)<(r.length:Int):=by omega
 have HR:Hid (aV (w.alloc (.cells (aW p) 80)) g r):=hr.kept (gK _ _ _ hg);have HC:Hid (Ch (· =g) w (w.alloc (.cells (aW p) 80))):=(Ch.refl _ _).alloc _;have HP:Hid ((w.alloc (.cells (aW p) 80)).heap[w.heap.size]? =some (.cells (aW p) 80 (0,0))):=bV _ _;clear hpt hl2 hw hr;go_enter func102,ntmps102;go_wp2_with (first|(go_at_call 167;refine(s2 _ h1).mono ?_;rintro e w2 ⟨rfl,h2,c2⟩)|(go_at_call 167;refine(s1 _ HR.o).mono ?_;rintro e w1 ⟨rfl,h1,c1⟩;clear HR)|(refine SH _ rfl (.tmp 9) rfl w.heap.size p rfl 80 (0,0) ((c2.block _ (by have:=c1.size;simp at this;omega) (by omega)).trans ((c1.block _ (by simp) (by omega)).trans HP.o)) ?_)|(refine sM _ rfl (.tmp 23) (.tmp 22) rfl g (a*7) a q ⟨c,p,0⟩ rfl rfl _ rfl rfl h2 (by rw[HL.o];omega) ?_));intro u3 h3 c3 z3;have HR3:Hid (aV u3 g (q.set a ⟨c,p,0⟩)):=h3;have yX:Hid (Ch (· =g) w u3):=((HC.o.trans c1).trans c2).trans c3;clear h3 h2 h1 c1 c2 c3 z3 HC HP s1 s2;rcases HW.o with rfl|rfl
 ·go_wp2_with fail;go_end0;exact⟨rfl,by rw[HX.o];exact HR3.o,yX.o⟩
 ·have Yw:q.length=r.length:=HL.o;have e1:(kN (q.set a ⟨c,p,0⟩)).set (a*7+6) (.int .i64 1)=kN (q.set a ⟨c,p,1⟩):=by rw[NP (q.set a ⟨c,p,0⟩) a ⟨c,p,0⟩ 1 (by rw[xX,ak rfl,ak (by omega)]),List.set_set]
  have E1:Hid _:=e1;have i2:(a:Int)+1<(r.length:Int):=by omega
  have w2':IntKind.i64.wrap ((a:Int)+1)=(a:Int)+1:=bD _ (by omega);clear e1 Yw w1';go_wp2_with (refine v_ _ rfl 3 zq (.tmp 29) _ rfl g (a*7+6) (kN (q.set a ⟨c,p,0⟩)) _ (.int .i64 1) (by rw[eO,lG,HL.o];omega) rfl rfl rfl rfl E1.o 101 HR3.o ?_);intro u4 h4 c4 z4;have HR4:Hid (aV u4 g (q.set a ⟨c,p,1⟩)):=h4;have OX:Hid (Ch (· =g) w u4):=yX.o.trans c4;clear h4 c4 z4 HR3 yX E1;go_wp2_with (first|(refine Cj _ rfl (.tmp 35) rfl g (a*7) a (q.set a ⟨c,p,1⟩) ⟨c,p,1⟩ rfl rfl HR4.o (by rw[xX,ak rfl,ak (by rw[HL.o];omega)]) ?_)|(go_at_call 169;refine(IE ⟨c,p,1⟩ _).mono ?_;rintro e w5 ⟨rfl,b5⟩)|(refine sM _ rfl (.tmp 38) (.tmp 37) rfl g ((a+1)*7) (a+1) (q.set a ⟨c,p,1⟩) ⟨0,p,2⟩ rfl rfl _ rfl rfl (HR4.o.kept (b5.block g HR4.o.lt)) (by rw[lG,HL.o];omega) ?_));intro u6 h6 c6 z6;go_wp2_with fail;go_end0;exact⟨rfl,by rw[HX.o];exact h6,(OX.o.trans (Ch.of_below b5)).trans c6⟩
theorem NV(w:World)(dT sT ty elem:TypeId)(b o dLen dCap:Nat)(a:Addr)(sLen sCap m:Nat)(cs:List Value)(hu:prog.underlying dT=some (.slice elem))(hs:(prog.info? elem).map (·.size)=some m)(hn:cs.length=Nat.min sLen dLen*m)(hsrc:∀j v,cs[j]? =some v→w.cell? (a.add j)=some v)(hc:∀j,j<cs.length→(w.cell? ⟨b,o+j,none⟩).isSome=true)(hf:∀j,j<cs.length→w.frozen? ⟨b,o+j,none⟩=false)(h1:∀v∈cs,v.oneCell'=true):
 (Builtin.copy_ #[dT,sT] ty #[.slice (some ⟨b,o,none⟩) dLen dCap,.slice (some a) sLen sCap]).run prog w= .ok (goInt (Nat.min sLen dLen)) (w.setCells b o cs):=by
 have hl:=run_loadCells_list (P:=prog) w a cs hsrc;have hst:=run_storeCells_cells (P:=prog) b o cs 0 w (by simpa using hc) (by simpa using hf) h1;cases hq:prog.info? elem with
 |none=>simp[hq]at hs
 |some i=>
  have hi:i.size=m:=by simpa[hq]using hs
  simp[Builtin.copy_,run_underlying hu,Builtin.lenOf,Builtin.firstCells,sizeOf,typeInfo,hq,hi, ←hn,hl,hst]
theorem NU(w:World)(dT sT ty elem:TypeId)(d a:Option Addr)(dLen dCap sLen sCap m:Nat)(hu:prog.underlying dT=some (.slice elem))(hs:(prog.info? elem).map (·.size)=some m)(hn:Nat.min sLen dLen=0):
 (Builtin.copy_ #[dT,sT] ty #[.slice d dLen dCap,.slice a sLen sCap]).run prog w= .ok (goInt 0) w:=by
 cases hq:prog.info? elem with
 |none=>simp[hq]at hs
 |some i=>
  have hl:∀(x:Addr),(loadCells x 0).run prog w= .ok #[] w:=fun x=>by simpa using run_loadCells_list (P:=prog) w x [] (by simp)
  cases d<;>cases a<;>simp[Builtin.copy_,run_underlying hu,Builtin.lenOf,Builtin.firstCells,sizeOf,typeInfo,hq,hn,storeCells,hl]
theorem pI{o:Oper}{l:List Value}{ds:List Deferred}{u:World}{K:Act→World→Prop}(d:Nat)(x y:Operand)(ho:o.op= .call {callee:=.builtin .copy,args:=#[x,y],argTypes:=#[166,166]})(hd:o.dst=some d)(dp sp:Option Addr)(dn dc sn sc:Nat)(hx:Act.eval ⟨l.toArray,ds⟩ x= .slice dp dn dc)(hy:Act.eval ⟨l.toArray,ds⟩ y= .slice sp sn sc)(g g2 da sa k:Nat)(r r2:List aI)(hr:aV u g r)(hr2:aV u g2 r2)(hk:k=min sn dn)(hd1:da+k≤r.length)(hs1:sa+k≤r2.length)(hp:0<k→dp=some ⟨g,da*7,none⟩∧sp=some ⟨g2,sa*7,none⟩)(h:∀u',aV u' g (jZ r da ((r2.drop sa).take k))→Ch (· =g) u u'→K ⟨(l.set d (goInt k)).toArray,ds⟩ u'):Oper.wp prog o ⟨l.toArray,ds⟩ u K Q:=by
 have Yw:((r2.drop sa).take k).length=k:=by rw[kg,o8];omega
 by_cases h0:k=0
 ·have hrun:=NU u 166 166 o.type 101 dp sp dn dc sn sc 7 underlying166 g_ (show min sn dn=0 by omega);have R:=h u (by subst h0;simpa[jZ]using hr) (Ch.refl _ _);subst h0;unfold Oper.wp;simp[execOp,ho,resolve,invoke,builtin,hx,hy,hrun,Result.andThen,Oper.upon_value,Act.put,hd];simpa using R
 ·obtain⟨rfl,rfl⟩:=hp (by omega);have hadd:∀j,(⟨g2,sa*7,none⟩:Addr).add j=⟨g2,sa*7+j,none⟩:=fun j=>by unfold Addr.add;split<;>simp_all
  have hrun:=NV u 166 166 o.type 101 g (da*7) dn dc ⟨g2,sa*7,none⟩ sn sc 7 (kN ((r2.drop sa).take k)) underlying166 g_ (by rw[eO,Yw,hk])
   (fun j v hv=>by
     have hj:j<k*7:=by have:=(gJ.1 hv).1;rw[eO,Yw]at this;exact this
     rw[←zH, ←vV,mJ,ak hj,rf]at hv
     rw[hadd,hr2.cell];exact hv)
   (fun j hj=>by rw[eO,Yw]at hj;rw[hr.cell,eG (by rw[eO];omega)];rfl)
   (fun j _=>oh _ _ _ _ _ hr) (Ig _)
  have hz:=size_setCells g (kN ((r2.drop sa).take k)) (da*7) u;have R:=h _ (Mg hr da ((r2.drop sa).take k) (by rw[Yw];exact hd1)) ⟨hz.2.1,hz.2.2.1,hz.2.2.2,by omega,fun i _ hn=>iR g _ _ _ i hn⟩;rw[show Nat.min sn dn=k from hk.symm]at hrun;unfold Oper.wp;simp[execOp,ho,resolve,invoke,builtin,hx,hy,hrun,Result.andThen,Oper.upon_value,Act.put,hd];simpa using R
theorem Bz(g a n len:Nat)(r:List aI)(w:World)(hr:aV w g r)(hlen:r.length=len)(ha:a<len)(hn:n≤70000)(hl:len≤100):
 Calls prog 101 #[.slice (some ⟨g,0,none⟩) len len,.int .i64 (a:Int),.int .i64 (n:Int)] w fun e w'=>e= .returned (.tuple #[])∧aV w' g (jd r a n)∧Ch (· =g) w w':=by
 by_cases hm:n<len-a
 ·have hi:jd r a n=wF r a n:=by rw[jd,rT (by omega)]
  have hcopy:wF r a n=jv (jZ (aJ (aJ r a) (len-n)) (a+n) (((aJ (aJ r a) (len-n)).drop a).take (len-(a+n)))) a n:=by rw[wF,hlen]
  rw[hi,hcopy];have hq:(aJ (aJ r a) (len-n)).length=len:=by rw[aH,aH,hlen]
  have s1:=iy g a len r w hr (by omega);have s2:∀u,aV u g (aJ r a)→_:=fun u hu=>iy g (len-n) len (aJ r a) u hu (by omega);rw[aH,hlen]at s2;rw[hlen]at s1;generalize aJ (aJ r a) (len-n)=q at*;have GY:(jZ q (a+n) ((q.drop a).take (len-(a+n)))).length=len:=by rw[ko _ _ _ (by simp;omega),hq]
  have HQ:Hid _:=hq;have HL:Hid _:=GY;have e1:(len:Int)-(a:Int)=((len-a:Nat):Int):=by omega
  have v1:IntKind.i64.wrap ((len-a:Nat):Int)=((len-a:Nat):Int):=bD _ (by omega);have e2:(len:Int)-(n:Int)=((len-n:Nat):Int):=by omega
  have v2:IntKind.i64.wrap ((len-n:Nat):Int)=((len-n:Nat):Int):=bD _ (by omega);have v3:IntKind.i64.wrap ((a:Int)+(n:Int))=(a:Int)+(n:Int):=bD _ (by omega);have i1:(n:Int)<((len-a:Nat):Int):=by omega
  have i3:a+n<len:=by omega
  have i4:a<len:=ha;have i5:len≠a:=by omega
  have i6:len≠a+n:=by omega
  have t1:((a:Int)+(n:Int)).toNat=a+n:=by omega
  have j1:(0:Int)≤(a:Int)+(n:Int):=by omega
  have j2:(a:Int)+(n:Int)≤(len:Int):=by omega
  clear hi hcopy hq GY hr;go_enter func101,ntmps101;go_wp2_with (first|(go_at_call 167;refine(s2 _ h1).mono ?_;rintro e w2 ⟨rfl,h2,c2⟩)|(go_at_call 167;refine s1.mono ?_;rintro e w1 ⟨rfl,h1,c1⟩));have HR:Hid (aV w2 g q):=h2;have HC:Hid (Ch (· =g) w w2):=c1.trans c2;clear h1 h2 c1 c2 s1 s2;have HS:aV ({w2 with drawn:=w2.drawn+1}:World) g q:=HR.o;refine dX (S:=fun x=>aV x g q∨aV x g (jZ q (a+n) ((q.drop a).take (len-(a+n))))) aX ?_;refine aj 0 (Or.inl HS) ?_ (v:=.slice (some ⟨g,0,none⟩) len len);refine aj 1 (Or.inl HS) ?_ (v:=.int .i64 (a:Int));refine aj 2 (Or.inl HS) ?_ (v:=.int .i64 (n:Int));refine aj 3 (Or.inl HS) ?_ (v:=.int .i64 ((a:Int)+(n:Int)));simp only[ag,af];refine aj 4 (Or.inl HS) ?_ (v:=.slice (some ⟨g,(a+n)*7,none⟩) (len-(a+n)) (len-(a+n)));refine aj 5 (Or.inl HS) ?_ (v:=.slice (some ⟨g,0,none⟩) len len);refine aj 6 (Or.inl HS) ?_ (v:=.int .i64 (a:Int));refine aj 7 (Or.inl HS) ?_ (v:=.slice (some ⟨g,a*7,none⟩) (len-a) (len-a));simp only[ag,af];refine wpAnyH_all (rs:=[8]) (by kernel_rfl) (by simp) ?_;intro i hi;rw[jg]at hi;subst hi;refine dI ?_;refine pI 29 (.tmp 25) (.tmp 28) rfl rfl _ _ _ _ _ _ rfl rfl g g (a+n) a (len-(a+n)) q q HS HS (by omega) (by rw[HQ.o];omega) (by rw[HQ.o];omega) (fun _=>⟨rfl,rfl⟩) ?_;intro u3 h3 c3;refine⟨Or.inr h3,?_⟩;clear HS HR;simp only[ag,af];have HR3:Hid (aV u3 g (jZ q (a+n) ((q.drop a).take (len-(a+n))))):=h3;have yX:Hid (Ch (· =g) w u3):=HC.o.trans ((Ch.refl (· =g) w2).trans ⟨c3.os,c3.tape,c3.output,c3.size,c3.block⟩);clear h3 c3 HC;refine aC ?_;go_wp2_with (go_at_call 168;refine(nY g (a*7) a (n) _ _ _ rfl HR3.o (by rw[HL.o];omega) (by rw[HL.o];omega)).mono ?_;rintro e w4 ⟨rfl,h4,c4⟩);go_end0;exact⟨rfl,h4,yX.o.trans c4⟩
 ·obtain⟨m,hm2⟩:∃m,len=a+m:=⟨len-a,by omega⟩;rcases(show m<n∨m=n by omega)with hmn|hmn
  ·have k1:¬n≤m:=by omega
   have k3:¬(n:Int)≤(m:Int):=by omega
   have hi:jd r a n=wF r a m:=by rw[jd,hlen,wO (by omega),hm2,Nat.add_sub_cancel_left]
   have hcopy:wF r a m=jv (jZ (aJ (aJ r a) a) (a+m) (((aJ (aJ r a) a).drop a).take (len-(a+m)))) a m:=by rw[wF,hlen,show len-m=a by omega]
   rw[hi,hcopy];have hq:(aJ (aJ r a) a).length=len:=by rw[aH,aH,hlen]
   have s1:=iy g a len r w hr (by omega);have s2:∀u,aV u g (aJ r a)→_:=fun u hu=>iy g a len (aJ r a) u hu (by omega);rw[aH,hlen]at s2;rw[hlen]at s1;generalize aJ (aJ r a) a=q at*;have GY:(jZ q (a+m) ((q.drop a).take (len-(a+m)))).length=len:=by rw[ko _ _ _ (by simp;omega),hq]
   have HQ:Hid _:=hq;have HL:Hid _:=GY;have e1:(len:Int)-(a:Int)=(m:Int):=by omega
   have v1:IntKind.i64.wrap (m:Int)=(m:Int):=bD _ (by omega);have e2:(len:Int)-(m:Int)=(a:Int):=by omega
   have v2:IntKind.i64.wrap (a:Int)=(a:Int):=bD _ (by omega);have v3:IntKind.i64.wrap (len:Int)=(len:Int):=bD _ (by omega);have i1:(m:Int)≤(n:Int):=by omega
   have i4:a<len:=ha;have i5:len≠a:=by omega
   have i6:(a:Int)+(m:Int)=(len:Int):=by omega
   have e3:len-a=m:=by omega
   have HM:Hid _:=hm2;clear hm2;clear hi hcopy hq GY hr;go_enter func101,ntmps101;go_wp2_with (first|(go_at_call 167;refine(s2 _ h1).mono ?_;rintro e w2 ⟨rfl,h2,c2⟩)|(go_at_call 167;refine s1.mono ?_;rintro e w1 ⟨rfl,h1,c1⟩));have HR:Hid (aV w2 g q):=h2;have HC:Hid (Ch (· =g) w w2):=c1.trans c2;clear h1 h2 c1 c2 s1 s2;have HS:aV ({w2 with drawn:=w2.drawn+1}:World) g q:=HR.o;refine dX (S:=fun x=>aV x g q∨aV x g (jZ q (a+m) ((q.drop a).take (len-(a+m))))) aX ?_;refine aj 0 (Or.inl HS) ?_ (v:=.slice (some ⟨g,0,none⟩) len len);refine aj 1 (Or.inl HS) ?_ (v:=.int .i64 (a:Int));refine aj 2 (Or.inl HS) ?_ (v:=.int .i64 (m:Int));refine aj 3 (Or.inl HS) ?_ (v:=.int .i64 (len:Int));simp only[ag,af];refine aj 4 (Or.inl HS) ?_ (v:=.slice (some ⟨g,0,none⟩) 0 0);refine aj 5 (Or.inl HS) ?_ (v:=.slice (some ⟨g,0,none⟩) len len);refine aj 6 (Or.inl HS) ?_ (v:=.int .i64 (a:Int));refine aj 7 (Or.inl HS) ?_ (v:=.slice (some ⟨g,a*7,none⟩) m m);simp only[ag,af];refine wpAnyH_all (rs:=[8]) (by kernel_rfl) (by simp) ?_;intro i hi;rw[jg]at hi;subst hi;refine dI ?_;have hm2:len=a+m:=HM.o;refine pI 29 (.tmp 25) (.tmp 28) rfl rfl _ _ _ _ _ _ rfl rfl g g (a+m) a (len-(a+m)) q q HS HS (by omega) (by rw[HQ.o];omega) (by rw[HQ.o];omega) (fun h=>by omega) ?_;intro u3 h3 c3;refine⟨Or.inr h3,?_⟩;clear HS HR hm2;simp only[ag,af];have HR3:Hid (aV u3 g (jZ q (a+m) ((q.drop a).take (len-(a+m))))):=h3;have yX:Hid (Ch (· =g) w u3):=HC.o.trans ((Ch.refl (· =g) w2).trans ⟨c3.os,c3.tape,c3.output,c3.size,c3.block⟩);clear h3 c3 HC;refine aC ?_;go_wp2_with (go_at_call 168;refine(nY g (a*7) a m _ _ _ rfl HR3.o (by rw[HL.o];exact Nat.le_of_eq HM.o.symm) (by rw[HL.o];omega)).mono ?_;rintro e w4 ⟨rfl,h4,c4⟩);go_end0;exact⟨rfl,h4,yX.o.trans c4⟩
  ·subst hmn;have hi:jd r a m=wF r a m:=by rw[jd,hlen,wO (by omega),hm2,Nat.add_sub_cancel_left]
   have hcopy:wF r a m=jv (jZ (aJ (aJ r a) a) (a+m) (((aJ (aJ r a) a).drop a).take (len-(a+m)))) a m:=by rw[wF,hlen,show len-m=a by omega]
   rw[hi,hcopy];have hq:(aJ (aJ r a) a).length=len:=by rw[aH,aH,hlen]
   have s1:=iy g a len r w hr (by omega);have s2:∀u,aV u g (aJ r a)→_:=fun u hu=>iy g a len (aJ r a) u hu (by omega);rw[aH,hlen]at s2;rw[hlen]at s1;generalize aJ (aJ r a) a=q at*;have GY:(jZ q (a+m) ((q.drop a).take (len-(a+m)))).length=len:=by rw[ko _ _ _ (by simp;omega),hq]
   have HQ:Hid _:=hq;have HL:Hid _:=GY;have e1:(len:Int)-(a:Int)=(m:Int):=by omega
   have v1:IntKind.i64.wrap (m:Int)=(m:Int):=bD _ (by omega);have e2:(len:Int)-(m:Int)=(a:Int):=by omega
   have v2:IntKind.i64.wrap (a:Int)=(a:Int):=bD _ (by omega);have v3:IntKind.i64.wrap (len:Int)=(len:Int):=bD _ (by omega);have i4:a<len:=ha;have i5:len≠a:=by omega
   have i6:(a:Int)+(m:Int)=(len:Int):=by omega
   have e3:len-a=m:=by omega
   have HM:Hid _:=hm2;clear hm2;clear hi hcopy hq GY hr;go_enter func101,ntmps101;go_wp2_with (first|(go_at_call 167;refine(s2 _ h1).mono ?_;rintro e w2 ⟨rfl,h2,c2⟩)|(go_at_call 167;refine s1.mono ?_;rintro e w1 ⟨rfl,h1,c1⟩));have HR:Hid (aV w2 g q):=h2;have HC:Hid (Ch (· =g) w w2):=c1.trans c2;clear h1 h2 c1 c2 s1 s2;have HS:aV ({w2 with drawn:=w2.drawn+1}:World) g q:=HR.o;refine dX (S:=fun x=>aV x g q∨aV x g (jZ q (a+m) ((q.drop a).take (len-(a+m))))) aX ?_;refine aj 0 (Or.inl HS) ?_ (v:=.slice (some ⟨g,0,none⟩) len len);refine aj 1 (Or.inl HS) ?_ (v:=.int .i64 (a:Int));refine aj 2 (Or.inl HS) ?_ (v:=.int .i64 (m:Int));refine aj 3 (Or.inl HS) ?_ (v:=.int .i64 (len:Int));simp only[ag,af];refine aj 4 (Or.inl HS) ?_ (v:=.slice (some ⟨g,0,none⟩) 0 0);refine aj 5 (Or.inl HS) ?_ (v:=.slice (some ⟨g,0,none⟩) len len);refine aj 6 (Or.inl HS) ?_ (v:=.int .i64 (a:Int));refine aj 7 (Or.inl HS) ?_ (v:=.slice (some ⟨g,a*7,none⟩) m m);simp only[ag,af];refine wpAnyH_all (rs:=[8]) (by kernel_rfl) (by simp) ?_;intro i hi;rw[jg]at hi;subst hi;refine dI ?_;have hm2:len=a+m:=HM.o;refine pI 29 (.tmp 25) (.tmp 28) rfl rfl _ _ _ _ _ _ rfl rfl g g (a+m) a (len-(a+m)) q q HS HS (by omega) (by rw[HQ.o];omega) (by rw[HQ.o];omega) (fun h=>by omega) ?_;intro u3 h3 c3;refine⟨Or.inr h3,?_⟩;clear HS HR hm2;simp only[ag,af];have HR3:Hid (aV u3 g (jZ q (a+m) ((q.drop a).take (len-(a+m))))):=h3;have yX:Hid (Ch (· =g) w u3):=HC.o.trans ((Ch.refl (· =g) w2).trans ⟨c3.os,c3.tape,c3.output,c3.size,c3.block⟩);clear h3 c3 HC;refine aC ?_;go_wp2_with (go_at_call 168;refine(nY g (a*7) a m _ _ _ rfl HR3.o (by rw[HL.o];exact Nat.le_of_eq HM.o.symm) (by rw[HL.o];omega)).mono ?_;rintro e w4 ⟨rfl,h4,c4⟩);go_end0;exact⟨rfl,h4,yX.o.trans c4⟩
theorem Ko(g a n len:Nat)(r:List aI)(w:World)(hr:aV w g r)(hlen:r.length=len)(ha:a<len)(hn:n≤70000)(hn1:1≤n)(hl:len≤100):
 Calls prog 186 #[.slice (some ⟨g,0,none⟩) len len,.int .i64 (a:Int),.int .i64 (n:Int)] w fun e w'=>e= .returned (.tuple #[])∧aV w' g (jT r a n)∧Ch (· =g) w w':=by
 by_cases hm:n<len-a
 ·have hi:jT r a n=wH r a n:=by rw[jT,rT (by omega)]
  have hcopy:wH r a n=jv (jZ (aJ (aJ r a) (a+n)) a (((aJ (aJ r a) (a+n)).drop (a+n)).take (len-(a+n)))) (len-n) n:=by have hd:(((aJ (aJ r a) (a+n)).drop (a+n)).take (len-(a+n)))=(aJ (aJ r a) (a+n)).drop (a+n):=l6 (by rw[o8,aH,aH,hlen];omega);rw[wH,hlen,hd]
  rw[hi,hcopy];have hq:(aJ (aJ r a) (a+n)).length=len:=by rw[aH,aH,hlen]
  have s1:=iy g a len r w hr (by omega);have s2:∀u,aV u g (aJ r a)→_:=fun u hu=>iy g (a+n) len (aJ r a) u hu (by omega);rw[aH,hlen]at s2;rw[hlen]at s1;generalize aJ (aJ r a) (a+n)=q at*;have GY:(jZ q a ((q.drop (a+n)).take (len-(a+n)))).length=len:=by rw[ko _ _ _ (by simp;omega),hq]
  have HQ:Hid _:=hq;have HL:Hid _:=GY;have e1:(len:Int)-(a:Int)=((len-a:Nat):Int):=by omega
  have v1:IntKind.i64.wrap ((len-a:Nat):Int)=((len-a:Nat):Int):=bD _ (by omega);have e2:(len:Int)-(n:Int)=((len-n:Nat):Int):=by omega
  have v2:IntKind.i64.wrap ((len-n:Nat):Int)=((len-n:Nat):Int):=bD _ (by omega);have v3:IntKind.i64.wrap ((a:Int)+(n:Int))=(a:Int)+(n:Int):=bD _ (by omega);have i1:(n:Int)<((len-a:Nat):Int):=by omega
  have i3:a+n<len:=by omega
  have i4:a<len:=ha;have i5:len≠a:=by omega
  have i6:len≠a+n:=by omega
  have i7:len≠len-n:=by omega
  have i8:len-(len-n)=n:=by omega
  have t1:((a:Int)+(n:Int)).toNat=a+n:=by omega
  have j1:(0:Int)≤(a:Int)+(n:Int):=by omega
  have j2:(a:Int)+(n:Int)≤(len:Int):=by omega
  clear hi hcopy hq GY hr;go_enter func186,ntmps186;go_wp2_with (first|(go_at_call 167;refine(s2 _ h1).mono ?_;rintro e w2 ⟨rfl,h2,c2⟩)|(go_at_call 167;refine s1.mono ?_;rintro e w1 ⟨rfl,h1,c1⟩));have HR:Hid (aV w2 g q):=h2;have HC:Hid (Ch (· =g) w w2):=c1.trans c2;clear h1 h2 c1 c2 s1 s2;have HS:aV ({w2 with drawn:=w2.drawn+1}:World) g q:=HR.o;refine dX (S:=fun x=>aV x g q∨aV x g (jZ q a ((q.drop (a+n)).take (len-(a+n))))) aX ?_;refine aj 0 (Or.inl HS) ?_ (v:=.slice (some ⟨g,0,none⟩) len len);refine aj 1 (Or.inl HS) ?_ (v:=.int .i64 (a:Int));refine aj 2 (Or.inl HS) ?_ (v:=.slice (some ⟨g,a*7,none⟩) (len-a) (len-a));refine aj 3 (Or.inl HS) ?_ (v:=.slice (some ⟨g,0,none⟩) len len);simp only[ag,af];refine aj 4 (Or.inl HS) ?_ (v:=.int .i64 (a:Int));refine aj 5 (Or.inl HS) ?_ (v:=.int .i64 (n:Int));refine aj 6 (Or.inl HS) ?_ (v:=.int .i64 ((a:Int)+(n:Int)));refine aj 7 (Or.inl HS) ?_ (v:=.slice (some ⟨g,(a+n)*7,none⟩) (len-(a+n)) (len-(a+n)));simp only[ag,af];refine wpAnyH_all (rs:=[8]) (by kernel_rfl) (by simp) ?_;intro i hi;rw[jg]at hi;subst hi;refine dI ?_;refine pI 28 (.tmp 22) (.tmp 27) rfl rfl _ _ _ _ _ _ rfl rfl g g a (a+n) (len-(a+n)) q q HS HS (by omega) (by rw[HQ.o];omega) (by rw[HQ.o];omega) (fun _=>⟨rfl,rfl⟩) ?_;intro u3 h3 c3;refine⟨Or.inr h3,?_⟩;clear HS HR;simp only[ag,af];have HR3:Hid (aV u3 g (jZ q a ((q.drop (a+n)).take (len-(a+n))))):=h3;have yX:Hid (Ch (· =g) w u3):=HC.o.trans ((Ch.refl (· =g) w2).trans ⟨c3.os,c3.tape,c3.output,c3.size,c3.block⟩);clear h3 c3 HC;refine aC ?_;go_wp2_with (go_at_call 168;refine(nY g ((len-n)*7) (len-n) n _ _ _ rfl HR3.o (by rw[HL.o];omega) (by rw[HL.o];omega)).mono ?_;rintro e w4 ⟨rfl,h4,c4⟩);go_end0;exact⟨rfl,h4,yX.o.trans c4⟩
 ·obtain⟨m,hm2⟩:∃m,len=a+m:=⟨len-a,by omega⟩;rcases(show m<n∨m=n by omega)with hmn|hmn
  ·have k1:¬n≤m:=by omega
   have k3:¬(n:Int)≤(m:Int):=by omega
   have hi:jT r a n=wH r a m:=by rw[jT,hlen,wO (by omega),hm2,Nat.add_sub_cancel_left]
   have hcopy:wH r a m=jv (jZ (aJ (aJ r a) len) a (((aJ (aJ r a) len).drop len).take (len-len))) a m:=by have hd:(((aJ (aJ r a) len).drop len).take (len-len))=(aJ (aJ r a) len).drop len:=l6 (by rw[o8,aH,aH,hlen];omega);rw[wH,hlen,show a+m=len by omega,show len-m=a by omega,hd]
   rw[hi,hcopy];have hq:(aJ (aJ r a) len).length=len:=by rw[aH,aH,hlen]
   have s1:=iy g a len r w hr (by omega);have s2:∀u,aV u g (aJ r a)→_:=fun u hu=>iy g len len (aJ r a) u hu (by omega);rw[aH,hlen]at s2;rw[hlen]at s1;generalize aJ (aJ r a) len=q at*;have GY:(jZ q a ((q.drop len).take (len-len))).length=len:=by rw[ko _ _ _ (by simp;omega),hq]
   have HQ:Hid _:=hq;have HL:Hid _:=GY;have e1:(len:Int)-(a:Int)=(m:Int):=by omega
   have v1:IntKind.i64.wrap (m:Int)=(m:Int):=bD _ (by omega);have e2:(len:Int)-(m:Int)=(a:Int):=by omega
   have v2:IntKind.i64.wrap (a:Int)=(a:Int):=bD _ (by omega);have v3:IntKind.i64.wrap (len:Int)=(len:Int):=bD _ (by omega);have i4:a<len:=ha;have i5:len≠a:=by omega
   have i6:(a:Int)+(m:Int)=(len:Int):=by omega
   have e3:len-a=m:=by omega
   have HM:Hid _:=hm2;clear hm2;clear hi hcopy hq GY hr;go_enter func186,ntmps186;go_wp2_with (first|(go_at_call 167;refine(s2 _ h1).mono ?_;rintro e w2 ⟨rfl,h2,c2⟩)|(go_at_call 167;refine s1.mono ?_;rintro e w1 ⟨rfl,h1,c1⟩));have HR:Hid (aV w2 g q):=h2;have HC:Hid (Ch (· =g) w w2):=c1.trans c2;clear h1 h2 c1 c2 s1 s2;have HS:aV ({w2 with drawn:=w2.drawn+1}:World) g q:=HR.o;refine dX (S:=fun x=>aV x g q∨aV x g (jZ q a ((q.drop len).take (len-len)))) aX ?_;refine aj 0 (Or.inl HS) ?_ (v:=.slice (some ⟨g,0,none⟩) len len);refine aj 1 (Or.inl HS) ?_ (v:=.int .i64 (a:Int));refine aj 2 (Or.inl HS) ?_ (v:=.slice (some ⟨g,a*7,none⟩) m m);refine aj 3 (Or.inl HS) ?_ (v:=.slice (some ⟨g,0,none⟩) len len);simp only[ag,af];refine aj 4 (Or.inl HS) ?_ (v:=.int .i64 (a:Int));refine aj 5 (Or.inl HS) ?_ (v:=.int .i64 (m:Int));refine aj 6 (Or.inl HS) ?_ (v:=.int .i64 (len:Int));refine aj 7 (Or.inl HS) ?_ (v:=.slice (some ⟨g,0,none⟩) 0 0);simp only[ag,af];refine wpAnyH_all (rs:=[8]) (by kernel_rfl) (by simp) ?_;intro i hi;rw[jg]at hi;subst hi;refine dI ?_;have hm2:len=a+m:=HM.o;refine pI 28 (.tmp 22) (.tmp 27) rfl rfl _ _ _ _ _ _ rfl rfl g g a len (len-len) q q HS HS (by omega) (by rw[HQ.o];omega) (by rw[HQ.o];omega) (fun h=>by omega) ?_;intro u3 h3 c3;refine⟨Or.inr h3,?_⟩;clear HS HR hm2;simp only[ag,af];have HR3:Hid (aV u3 g (jZ q a ((q.drop len).take (len-len)))):=h3;have yX:Hid (Ch (· =g) w u3):=HC.o.trans ((Ch.refl (· =g) w2).trans ⟨c3.os,c3.tape,c3.output,c3.size,c3.block⟩);clear h3 c3 HC;refine aC ?_;go_wp2_with (go_at_call 168;refine(nY g (a*7) a m _ _ _ rfl HR3.o (by rw[HL.o];exact Nat.le_of_eq HM.o.symm) (by rw[HL.o];omega)).mono ?_;rintro e w4 ⟨rfl,h4,c4⟩);go_end0;exact⟨rfl,h4,yX.o.trans c4⟩
  ·subst hmn;have hi:jT r a m=wH r a m:=by rw[jT,hlen,wO (by omega),hm2,Nat.add_sub_cancel_left]
   have hcopy:wH r a m=jv (jZ (aJ (aJ r a) len) a (((aJ (aJ r a) len).drop len).take (len-len))) a m:=by have hd:(((aJ (aJ r a) len).drop len).take (len-len))=(aJ (aJ r a) len).drop len:=l6 (by rw[o8,aH,aH,hlen];omega);rw[wH,hlen,show a+m=len by omega,show len-m=a by omega,hd]
   rw[hi,hcopy];have hq:(aJ (aJ r a) len).length=len:=by rw[aH,aH,hlen]
   have s1:=iy g a len r w hr (by omega);have s2:∀u,aV u g (aJ r a)→_:=fun u hu=>iy g len len (aJ r a) u hu (by omega);rw[aH,hlen]at s2;rw[hlen]at s1;generalize aJ (aJ r a) len=q at*;have GY:(jZ q a ((q.drop len).take (len-len))).length=len:=by rw[ko _ _ _ (by simp;omega),hq]
   have HQ:Hid _:=hq;have HL:Hid _:=GY;have e1:(len:Int)-(a:Int)=(m:Int):=by omega
   have v1:IntKind.i64.wrap (m:Int)=(m:Int):=bD _ (by omega);have e2:(len:Int)-(m:Int)=(a:Int):=by omega
   have v2:IntKind.i64.wrap (a:Int)=(a:Int):=bD _ (by omega);have v3:IntKind.i64.wrap (len:Int)=(len:Int):=bD _ (by omega);have i4:a<len:=ha;have i5:len≠a:=by omega
   have i6:(a:Int)+(m:Int)=(len:Int):=by omega
   have e3:len-a=m:=by omega
   have HM:Hid _:=hm2;clear hm2;clear hi hcopy hq GY hr;go_enter func186,ntmps186;go_wp2_with (first|(go_at_call 167;refine(s2 _ h1).mono ?_;rintro e w2 ⟨rfl,h2,c2⟩)|(go_at_call 167;refine s1.mono ?_;rintro e w1 ⟨rfl,h1,c1⟩));have HR:Hid (aV w2 g q):=h2;have HC:Hid (Ch (· =g) w w2):=c1.trans c2;clear h1 h2 c1 c2 s1 s2;have HS:aV ({w2 with drawn:=w2.drawn+1}:World) g q:=HR.o;refine dX (S:=fun x=>aV x g q∨aV x g (jZ q a ((q.drop len).take (len-len)))) aX ?_;refine aj 0 (Or.inl HS) ?_ (v:=.slice (some ⟨g,0,none⟩) len len);refine aj 1 (Or.inl HS) ?_ (v:=.int .i64 (a:Int));refine aj 2 (Or.inl HS) ?_ (v:=.slice (some ⟨g,a*7,none⟩) m m);refine aj 3 (Or.inl HS) ?_ (v:=.slice (some ⟨g,0,none⟩) len len);simp only[ag,af];refine aj 4 (Or.inl HS) ?_ (v:=.int .i64 (a:Int));refine aj 5 (Or.inl HS) ?_ (v:=.int .i64 (m:Int));refine aj 6 (Or.inl HS) ?_ (v:=.int .i64 (len:Int));refine aj 7 (Or.inl HS) ?_ (v:=.slice (some ⟨g,0,none⟩) 0 0);simp only[ag,af];refine wpAnyH_all (rs:=[8]) (by kernel_rfl) (by simp) ?_;intro i hi;rw[jg]at hi;subst hi;refine dI ?_;have hm2:len=a+m:=HM.o;refine pI 28 (.tmp 22) (.tmp 27) rfl rfl _ _ _ _ _ _ rfl rfl g g a len (len-len) q q HS HS (by omega) (by rw[HQ.o];omega) (by rw[HQ.o];omega) (fun h=>by omega) ?_;intro u3 h3 c3;refine⟨Or.inr h3,?_⟩;clear HS HR hm2;simp only[ag,af];have HR3:Hid (aV u3 g (jZ q a ((q.drop len).take (len-len)))):=h3;have yX:Hid (Ch (· =g) w u3):=HC.o.trans ((Ch.refl (· =g) w2).trans ⟨c3.os,c3.tape,c3.output,c3.size,c3.block⟩);clear h3 c3 HC;refine aC ?_;go_wp2_with (go_at_call 168;refine(nY g (a*7) a m _ _ _ rfl HR3.o (by rw[HL.o];exact Nat.le_of_eq HM.o.symm) (by rw[HL.o];omega)).mono ?_;rintro e w4 ⟨rfl,h4,c4⟩);go_end0;exact⟨rfl,h4,yX.o.trans c4⟩
end Go.Proofs.YtheibfffilomcaaGreatDoor
