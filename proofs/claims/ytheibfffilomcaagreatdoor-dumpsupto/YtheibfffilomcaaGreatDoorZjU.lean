import Derived.Test.YtheibfffilomcaaGreatDoorTmaU
import Derived.Test.YtheibfffilomcaaGreatDoorGe
import Derived.Test.YtheibfffilomcaaGreatDoorVvU
set_option linter.all false
set_option maxRecDepth 100000
set_option maxHeartbeats 8000000
namespace Go.Proofs.YtheibfffilomcaaGreatDoor
open Go.RowKit Go.Proofs.Tryz
variable {a:Act} {u:World} {S:bS}
theorem D5{o:Oper}(x y:Operand)(ho:o.op= .binOp .eql 82 x y 82)(c d:di)(hx:a.eval x= .agg (aB c).toArray)(hy:a.eval y= .agg (aB d).toArray)(w:World):(execOp a.eval o).run prog w= .ok (.value (.bool (decide (c=d)))) w:=by unfold execOp;simp only[ho,hx,hy,jV,JR 82 (.inr (.inl rfl)),LZ,jU,mK]
theorem Sm.fresh{u':World}{o:Obj}(k:Ch (· =u.heap.size) (u.alloc o) u'):Sm u u':=((Ch.refl _ _).alloc _).trans' k (fun j hj e=>by omega)
theorem D6{y:World}{g:Nat}{v:Value}{p:di}(h:y.heap[g]? =some (.cells (aT v p).toArray 87 (0,0))):y.rangeAt g 1 (aB p):=fun i x hx=>by rw[bG _ _ _ _ _ _ h,Nat.add_comm];simpa[aT]using hx
def zI (q:fO) (R:List aI) (p:di):List Int:=o5 q R p 0++[27,55]++(if p.origin then[27,91,63,54,108]else[])++(if p.first=1 then[27,40,66]else[])++(if p.second=1 then[27,41,66]else[])++(if p.use=1 then[15]else[])
def mH (X:WS) (R:List aI) (p:di):List Int:=if p=aY then X.tx else X.tx++zI X.pen R p
def jG (X:WS) (p:di):fO:=if p=aY then X.pen else p.pen
theorem vD(q:fO)(R:List aI)(p:di)(top:Int)(hp:p.pen.Ok):(o5 q R p top).length≤200:=by
 have hq:∀a b:fO,(wG a b).length≤20:=fun a b=>by
  have d:∀n:Int,(jB n).length≤2:=fun n=>by unfold jB;split<;>simp
  have d1:=d (b.f-1);have d2:=d (b.k-1);unfold wG oD;split
  ·simp
  ·simp only[fU,fE,eP]
   (repeat' split)<;>simp only[fU,fE,eP]<;>omega
 have hu:∀n:Int,(oP n).length≤4:=fun n=>by unfold oP;(repeat' split)<;>simp
 have hs:∀row,(u_ q R p row).length≤60:=fun row=>by
  have h1:=Fb row (jY R);have h2:=Fb row p.col;have h3:=hq q (R.getD (jY R) aD).p;have h4:=hu (R.getD (jY R) aD).r;unfold u_;split
  ·simp only[fU,fE,eP]at*;omega
  ·omega
 have h5:=hq (w_ q R p) p.pen;unfold o5;simp only[fU];have h6:=hs (if p.origin then p.row-top else p.row);have a1:(if p.origin then([27,91,63,54,104]:List Int)else[]).length≤5:=by split<;>simp
 have a2:(if p.first=1 then([27,40,48]:List Int)else[]).length≤3:=by split<;>simp
 have a3:(if p.second=1 then([27,41,48]:List Int)else[]).length≤3:=by split<;>simp
 have a4:(if p.use=1 then([14]:List Int)else[]).length≤1:=by split<;>simp
 omega
theorem Kz(v:Value)(S:cz)(p:di)(q:fO)(w:World)(hS:ShR w 0 v S)(pr:Nat)(r:bY)(hpr:p.row=(pr:Int))(ET:S[pr]? =some r)(h12:S.length≤12)(hrl:∀r∈S,1≤r.length∧r.length≤40)(hok:∀r∈S,∀c∈r,c.1.part=2∨c.1.Ok)(QO:0≤p.col∧p.col<40)(hp0:0≤p.row)(Nk:p.pen.Ok)(hl2:((strip r).getD (r.length-1) aD).part=2→2≤r.length)(hlo:((strip r).getD (jY (strip r)) aD).Ok)(X:WS)(hX:X=WS.fu ⟨[],q⟩ 0 (dM S))(hXl:X.tx.length≤20000):Calls prog 66 #[.agg (aT v p).toArray,.agg (aW q)] w fun e w'=>∃s:ByteArray,e= .returned (.tuple #[.string s,.agg (aW (jG X p))])∧bl s=mH X (strip r) p∧Sm w w':=by
 have nK:Hid ((((w.alloc (.cells (aT v p).toArray 87)).alloc (.cells (aW q) 80)).alloc (.cells #[.bool false,.bool false,.bool false,.int .i64 0,.int .i64 0] 80)).heap[w.heap.size]? =some (.cells (aT v p).toArray 87 (0,0))):=((gK _ _ _ (by simp;omega)).trans (gK _ _ _ (by simp))).trans (bV _ _);have nZ:Hid ((((w.alloc (.cells (aT v p).toArray 87)).alloc (.cells (aW q) 80)).alloc (.cells #[.bool false,.bool false,.bool false,.int .i64 0,.int .i64 0] 80)).heap[w.heap.size+1]? =some (.cells (aW q) 80 (0,0))):=(gK _ _ _ (by simp)).trans (gG w _ _);have HG2:Hid ((((w.alloc (.cells (aT v p).toArray 87)).alloc (.cells (aW q) 80)).alloc (.cells #[.bool false,.bool false,.bool false,.int .i64 0,.int .i64 0] 80)).heap[w.heap.size+2]? =some (.cells #[.bool false,.bool false,.bool false,.int .i64 0,.int .i64 0] 80 (0,0))):=by have h9:=gG (w.alloc (.cells (aT v p).toArray 87)) (.cells (aW q) 80) (.cells #[.bool false,.bool false,.bool false,.int .i64 0,.int .i64 0] 80);rw[show(w.alloc (.cells (aT v p).toArray 87)).heap.size+1=w.heap.size+2 by simp]at h9;exact h9
 have oG:Hid (Sm w (((w.alloc (.cells (aT v p).toArray 87)).alloc (.cells (aW q) 80)).alloc (.cells #[.bool false,.bool false,.bool false,.int .i64 0,.int .i64 0] 80))):=(((Ch.refl _ _).alloc _).alloc _).alloc _;obtain⟨W,hW⟩:∃W,W=(((w.alloc (.cells (aT v p).toArray 87)).alloc (.cells (aW q) 80)).alloc (.cells #[.bool false,.bool false,.bool false,.int .i64 0,.int .i64 0] 80)):=⟨_,rfl⟩;have HW:Hid _:=hW;rw[←hW]at nK nZ HG2 oG;clear hW;have hWs:w.heap.size+3≤W.heap.size:=by have:=aK HG2.o;omega
 have HSH:Hid (∀u,Sm w u→ShR u 0 v S):=fun u hu=>hS.nk hu (fun k h=>h.elim);obtain⟨XT,hXT⟩:∃T,X.tx=T:=⟨_,rfl⟩;obtain⟨XP,hXP⟩:∃P,X.pen=P:=⟨_,rfl⟩;have CA:∀u,Sm w u→Calls prog 140 #[.agg (aT v p).toArray,.agg (aW q)] u fun e w'=>∃s:ByteArray,e= .returned (.tuple #[.string s,.agg (aW XP)])∧bl s=XT∧s.size≤20000∧Sm u w':=fun u hu=>by have h9:=MU v S p q u (HSH.o u hu) h12 (fun r h=>(hrl r h).2) hok;rw[←hX]at h9;refine h9.mono fun e w' h=>?_;obtain⟨s,h1,h2,h3⟩:=h;rw[hXP]at h1;exact⟨s,h1,by rw[h2,hXT],by rw[←cZ,h2];exact hXl,h3⟩
 have HCA:Hid _:=CA;have SPC:∀u,Sm w u→Calls prog 68 #[.agg (aT v p).toArray,.agg (aB p).toArray,.int .i64 0,.agg (aW XP)] u fun e w'=>∃s:ByteArray,e= .returned (.string s)∧bl s=o5 XP (strip r) p 0∧Sm u w':=fun u hu=>
  Iy v S p p 0 XP u (HSH.o u hu) pr r hpr ET h12 (hrl r (iH ET)) QO (by omega) (fun _=>hp0) Nk hl2 hlo
 have TV:Hid _:=SPC;have hST:mH X (strip r) p=if p=aY then XT else XT++zI XP (strip r) p:=by unfold mH;rw[hXT,hXP]
 have hSP:jG X p=if p=aY then XP else p.pen:=by unfold jG;rw[hXP]
 rw[hST,hSP];clear hS ET h12 hrl hok QO hp0 hl2 hlo hX hXl CA SPC hST hSP hXT hXP hpr;by_cases heq:p=aY
 ·have b1:Hid (decide (p=aY)=true):=iP heq;have HEQ:Hid _:=heq;clear heq;rw[ak HEQ.o,ak HEQ.o];go_enter func66,ntmps66;go_upto_region 1 with fail;rw[←HW.o];go_wp2_with (first|(refine fC rfl 87 (.tmp 2) rfl w.heap.size rfl 87 (aT v p).toArray (0,0) _ nK.o underlying87 rfl jP ?_)|(refine fC rfl 80 (.tmp 3) rfl (w.heap.size+1) rfl 80 (aW q) (0,0) _ nZ.o underlying80 rfl eH ?_));refine(HCA.o _ oG.o).mono ?_;rintro e w1 ⟨s1,rfl,hb1,z1,zb⟩;have HB1:Hid _:=hb1;have Cn:Hid (w1.heap[w.heap.size+1]? =some (.cells (aW q) 80 (0,0))):=(zb.block _ (aK nZ.o) id).trans nZ.o;have ME:Hid (Sm W w1):=zb;clear hb1 zb;go_upto_region 2 with(refine bK _ rfl 80 (.tmp 3) (.tmp 14) rfl (w.heap.size+1) (dG q) (dG XP) rfl _ rfl rfl 80 Cn.o rfl eH (jq _) ?_;intro u1 g1 k1 z11;have kR:Hid (Ch (· =w.heap.size+1) W u1):=(Sm.ch ME.o).trans k1;have HQ1:Hid (u1.heap[w.heap.size+1]? =some (.cells (aW XP) 80 (0,0))):=g1;clear g1 k1 z11);have F8:Hid (u1.heap[w.heap.size]? =some (.cells (aT v p).toArray 87 (0,0))):=(kR.o.block _ (aK nK.o) (by omega)).trans nK.o;have HE2:Hid (u1.heap[w.heap.size+1+1]? =some (.cells #[.bool false,.bool false,.bool false,.int .i64 0,.int .i64 0] 80 (0,0))):=(kR.o.block _ (aK HG2.o) (by omega)).trans HG2.o;have Gh:Hid (Sm w u1):=oG.o.trans' kR.o (fun j hj e=>by omega);have hu1:W.heap.size≤u1.heap.size:=kR.o.size;go_upto_region 3 with(first|(refine nN rfl 82 (.tmp 15) rfl w.heap.size 1 rfl (aB p) _ (D6 F8.o) underlying82 rfl bH ?_)|(refine bK _ rfl 82 (.tmp 7) (.tmp 16) rfl u1.heap.size [.int .i64 0,.int .i64 0,.bool false,.bool false,.bool false,.bool false,.int .i64 0,.int .i64 0,.int .i64 0,.int .i64 0,.int .i64 0,.bool false] (aB p) rfl _ rfl rfl 82 (bV _ _) rfl bH (iM _) ?_;intro u2 g2 k2 z22;have HS2:Hid (Sm u1 u2):=Sm.fresh k2;have sQ:Hid (u2.heap[u1.heap.size]? =some (.cells (aB p).toArray 82 (0,0))):=g2;clear g2 k2 z22));go_upto_region 4 with(refine bK _ rfl 82 (.tmp 8) (.tmp 17) rfl u2.heap.size [.int .i64 0,.int .i64 0,.bool false,.bool false,.bool false,.bool false,.int .i64 0,.int .i64 0,.int .i64 0,.int .i64 0,.int .i64 0,.bool false] (aB aY) rfl _ rfl rfl 82 (bV _ _) rfl bH (iM _) ?_;intro u3 g3 k3 z33;have Cr:Hid (Sm u2 u3):=Sm.fresh k3;have HN3:Hid (u3.heap[u2.heap.size]? =some (.cells (aB aY).toArray 82 (0,0))):=g3;clear g3 k3 z33);have FQ:Hid (u3.heap[u1.heap.size]? =some (.cells (aB p).toArray 82 (0,0))):=(Cr.o.block _ (aK sQ.o) id).trans sQ.o;have Er:Hid (Sm u1 u3):=HS2.o.trans Cr.o;have HQ3:Hid (u3.heap[w.heap.size+1]? =some (.cells (aW XP) 80 (0,0))):=(Er.o.block _ (aK HQ1.o) id).trans HQ1.o;have Zt:Hid (u3.heap[w.heap.size]? =some (.cells (aT v p).toArray 87 (0,0))):=(Er.o.block _ (aK F8.o) id).trans F8.o;have Tz:Hid (u3.heap[w.heap.size+1+1]? =some (.cells #[.bool false,.bool false,.bool false,.int .i64 0,.int .i64 0] 80 (0,0))):=(Er.o.block _ (aK HE2.o) id).trans HE2.o;have TU:Hid (Sm w u3):=Gh.o.trans Er.o;go_upto_if 20 with(first|(refine fC rfl 82 (.tmp 7) rfl u1.heap.size rfl 82 (aB p).toArray (0,0) _ FQ.o underlying82 rfl bH ?_)|(refine fC rfl 82 (.tmp 8) rfl u2.heap.size rfl 82 (aB aY).toArray (0,0) _ HN3.o underlying82 rfl bH ?_)|(refine AB rfl (.bool true) (by rw[←b1.o];exact D5 (.tmp 18) (.tmp 19) rfl p aY rfl rfl _) ?_))
  (try go_simp)
  go_wp2_with fail
  (try simp only[Act.put,List.setIfInBounds_toArray,fD,fP])
  have Cz:({u3 with drawn:=u3.drawn+1}:World).heap[w.heap.size+1]? =some (.cells (aW XP) 80 (0,0)):=HQ3.o;have G2:({u3 with drawn:=u3.drawn+1}:World).heap[w.heap.size+1+1]? =some (.cells ([.bool false,.bool false,.bool false,.int .i64 0,.int .i64 0]:List Value).toArray 80 (0,0)):=Tz.o;refine dX (S:=fun y=>y.heap[w.heap.size+1]? =some (.cells (aW XP) 80 (0,0))) aX ?_;refine aj 0 Cz ?_;simp only[ag,af];refine aj 1 Cz ?_ (v:=.agg (aW XP)) (hy:=(kz (by rfl) 80 (.tmp 3) rfl (w.heap.size+1) 0 rfl (dG XP) _ (fun y h=>fK h) underlying80 rfl eH));refine aj 2 Cz ?_;simp only[ag,af];refine av 3 ?_;refine uo 80 (.tmp 5) (.tmp 22) rfl rfl (w.heap.size+1+1) [.bool false,.bool false,.bool false,.int .i64 0,.int .i64 0] (dG XP) rfl rfl 80 G2 rfl eH (jq _) ?_;intro u15 g15 k15;have PU:=(k15.block _ (aK Cz) (by omega)).trans Cz;refine⟨PU,?_⟩
  try simp only[ag,af]
  refine aC ?_;have WW:Hid (Sm w u15):=(TU.o.drewN 1).trans' k15 (fun j hj e=>by omega);have O_:Hid _:=g15;clear Cz PU G2 g15 k15;go_wp2_with fail;exact bX (xI results66 _ _ (w.heap.size+1+1) (dG XP) 80 (0,0) underlying80 eH rfl O_.o) rfl ⟨s1,rfl,HB1.o,WW.o⟩
 have b1:Hid (decide (p=aY)=false):=jh heq;rw[ai heq,ai heq];go_enter func66,ntmps66;go_upto_region 1 with fail;rw[←HW.o];go_wp2_with (first|(refine fC rfl 87 (.tmp 2) rfl w.heap.size rfl 87 (aT v p).toArray (0,0) _ nK.o underlying87 rfl jP ?_)|(refine fC rfl 80 (.tmp 3) rfl (w.heap.size+1) rfl 80 (aW q) (0,0) _ nZ.o underlying80 rfl eH ?_));refine(HCA.o _ oG.o).mono ?_;rintro e w1 ⟨s1,rfl,hb1,z1,zb⟩;have HB1:Hid _:=hb1;have Cn:Hid (w1.heap[w.heap.size+1]? =some (.cells (aW q) 80 (0,0))):=(zb.block _ (aK nZ.o) id).trans nZ.o;have ME:Hid (Sm W w1):=zb;clear hb1 zb;go_upto_region 2 with(refine bK _ rfl 80 (.tmp 3) (.tmp 14) rfl (w.heap.size+1) (dG q) (dG XP) rfl _ rfl rfl 80 Cn.o rfl eH (jq _) ?_;intro u1 g1 k1 z11;have kR:Hid (Ch (· =w.heap.size+1) W u1):=(Sm.ch ME.o).trans k1;have HQ1:Hid (u1.heap[w.heap.size+1]? =some (.cells (aW XP) 80 (0,0))):=g1;clear g1 k1 z11);have F8:Hid (u1.heap[w.heap.size]? =some (.cells (aT v p).toArray 87 (0,0))):=(kR.o.block _ (aK nK.o) (by omega)).trans nK.o;have HE2:Hid (u1.heap[w.heap.size+1+1]? =some (.cells #[.bool false,.bool false,.bool false,.int .i64 0,.int .i64 0] 80 (0,0))):=(kR.o.block _ (aK HG2.o) (by omega)).trans HG2.o;have Gh:Hid (Sm w u1):=oG.o.trans' kR.o (fun j hj e=>by omega);have hu1:W.heap.size≤u1.heap.size:=kR.o.size;go_upto_region 3 with(first|(refine nN rfl 82 (.tmp 15) rfl w.heap.size 1 rfl (aB p) _ (D6 F8.o) underlying82 rfl bH ?_)|(refine bK _ rfl 82 (.tmp 7) (.tmp 16) rfl u1.heap.size [.int .i64 0,.int .i64 0,.bool false,.bool false,.bool false,.bool false,.int .i64 0,.int .i64 0,.int .i64 0,.int .i64 0,.int .i64 0,.bool false] (aB p) rfl _ rfl rfl 82 (bV _ _) rfl bH (iM _) ?_;intro u2 g2 k2 z22;have HS2:Hid (Sm u1 u2):=Sm.fresh k2;have sQ:Hid (u2.heap[u1.heap.size]? =some (.cells (aB p).toArray 82 (0,0))):=g2;clear g2 k2 z22));go_upto_region 4 with(refine bK _ rfl 82 (.tmp 8) (.tmp 17) rfl u2.heap.size [.int .i64 0,.int .i64 0,.bool false,.bool false,.bool false,.bool false,.int .i64 0,.int .i64 0,.int .i64 0,.int .i64 0,.int .i64 0,.bool false] (aB aY) rfl _ rfl rfl 82 (bV _ _) rfl bH (iM _) ?_;intro u3 g3 k3 z33;have Cr:Hid (Sm u2 u3):=Sm.fresh k3;have HN3:Hid (u3.heap[u2.heap.size]? =some (.cells (aB aY).toArray 82 (0,0))):=g3;clear g3 k3 z33);have FQ:Hid (u3.heap[u1.heap.size]? =some (.cells (aB p).toArray 82 (0,0))):=(Cr.o.block _ (aK sQ.o) id).trans sQ.o;have Er:Hid (Sm u1 u3):=HS2.o.trans Cr.o;have HQ3:Hid (u3.heap[w.heap.size+1]? =some (.cells (aW XP) 80 (0,0))):=(Er.o.block _ (aK HQ1.o) id).trans HQ1.o;have Zt:Hid (u3.heap[w.heap.size]? =some (.cells (aT v p).toArray 87 (0,0))):=(Er.o.block _ (aK F8.o) id).trans F8.o;have Tz:Hid (u3.heap[w.heap.size+1+1]? =some (.cells #[.bool false,.bool false,.bool false,.int .i64 0,.int .i64 0] 80 (0,0))):=(Er.o.block _ (aK HE2.o) id).trans HE2.o;have TU:Hid (Sm w u3):=Gh.o.trans Er.o;go_upto_region 6 with(first|(refine fC rfl 82 (.tmp 7) rfl u1.heap.size rfl 82 (aB p).toArray (0,0) _ FQ.o underlying82 rfl bH ?_)|(refine fC rfl 82 (.tmp 8) rfl u2.heap.size rfl 82 (aB aY).toArray (0,0) _ HN3.o underlying82 rfl bH ?_)|(refine AB rfl (.bool false) (by rw[←b1.o];exact D5 (.tmp 18) (.tmp 19) rfl p aY rfl rfl _) ?_));go_wp2_with (first|(refine fC rfl 87 (.tmp 2) rfl w.heap.size rfl 87 (aT v p).toArray (0,0) _ Zt.o underlying87 rfl jP ?_)|(refine fC rfl 82 (.tmp 7) rfl u1.heap.size rfl 82 (aB p).toArray (0,0) _ FQ.o underlying82 rfl bH ?_)|(refine fC rfl 80 (.tmp 3) rfl (w.heap.size+1) rfl 80 (aW XP) (0,0) _ HQ3.o underlying80 rfl eH ?_));refine(TV.o _ TU.o).mono ?_;rintro e w5 ⟨st,rfl,hst,KH⟩;have zst:st.size≤200:=by rw[←cZ,hst];exact vD _ _ _ _ Nk
 obtain⟨g3,hg3⟩:∃g,g=u1.heap.size:=⟨_,rfl⟩;have HP5:Hid (w5.heap[g3]? =some (.cells (aB p).toArray 82 (0,0))):=by show _=_;rw[hg3];exact(KH.block _ (aK FQ.o) id).trans FQ.o
 have adJ:Hid (w5.heap[w.heap.size+1+1]? =some (.cells #[.bool false,.bool false,.bool false,.int .i64 0,.int .i64 0] 80 (0,0))):=(KH.block _ (aK Tz.o) id).trans Tz.o;have aah:Hid (Sm w w5):=TU.o.trans KH;have ai7:w.heap.size+2<g3:=by omega
 have e55:bl (⟨#[27,55]⟩:ByteArray)=[27,55]:=by kernel_rfl
 obtain⟨T3,Yo⟩:∃T,T=XT++o5 XP (strip r) p 0++[27,55]:=⟨_,rfl⟩;have HB3:Hid (bl (s1++st++⟨#[27,55]⟩)=T3):=by show _=_;rw[aL,aL,HB1.o,hst,e55,Yo]
 have HT3:Hid _:=Yo;have z3:(s1++st++⟨#[27,55]⟩).size≤30000:=by rw[iC,iC];show _+_+2≤_;omega
 have c11:w5.cell? ⟨g3,11,none⟩=some (.bool p.origin):=(bG _ _ _ _ _ _ HP5.o).trans rfl;have c8:w5.cell? ⟨g3,8,none⟩=some (.int .i64 p.first):=(bG _ _ _ _ _ _ HP5.o).trans rfl;have c9:w5.cell? ⟨g3,9,none⟩=some (.int .i64 p.second):=(bG _ _ _ _ _ _ HP5.o).trans rfl;have c10:w5.cell? ⟨g3,10,none⟩=some (.int .i64 p.use):=(bG _ _ _ _ _ _ HP5.o).trans rfl;rw[←hg3];clear hst KH Yo hg3;go_upto_if 31 with fail;go_cut [6] from 30 to 34 (fun s6 wc=>∃s:ByteArray,s6= .string s∧bl s=T3++(if p.origin then[27,91,63,54,108]else[])∧s.size≤30030∧wc=w5)
 case first=>
  have XM:bl (⟨#[27,91]⟩:ByteArray)=[27,91]:=by kernel_rfl
  have ez0:(⟨#[27,91]⟩:ByteArray).size≤3:=by decide
  have et1:bl (⟨#[63,54,108]⟩:ByteArray)=[63,54,108]:=by kernel_rfl
  have ez1:(⟨#[63,54,108]⟩:ByteArray).size≤3:=by decide
  cases hf:p.origin with
  |true=>
   rw[hf]at c11;have HF:Hid _:=hf;clear hf;go_wp2_with fail;go_meet;refine⟨_,rfl,?_,?_,rfl⟩
   ·rw[aL,aL,HB3.o,XM,et1,ak HF.o];simp
   ·rw[iC,iC];omega
  |false=>rw[hf]at c11;have HF:Hid _:=hf;clear hf;go_wp2_with fail;go_meet;exact⟨_,rfl,by rw[HB3.o,ai (by rw[HF.o];decide),gp],by omega,rfl⟩
 case rest=>
  generalize hwc:wc=wq at*;clear hwc wc;obtain⟨s4,rfl,hb4,z4,hwq⟩:=hcut;have xz:=hwq.symm;subst xz;clear hwq;obtain⟨T4,OM⟩:∃T,T=T3++(if p.origin then[27,91,63,54,108]else[]):=⟨_,rfl⟩;rw[←OM]at hb4;have Ja:Hid _:=hb4;have rV:Hid _:=OM;clear hb4 OM;go_upto_if 37 with fail;go_cut [6] from 35 to 39 (fun s6 wc=>∃s:ByteArray,s6= .string s∧bl s=T4++(if p.first=1 then[27,40,66]else[])∧s.size≤30040∧wc=w5)
  case first=>
   have XM:bl (⟨#[27,40,66]⟩:ByteArray)=[27,40,66]:=by kernel_rfl
   have ez0:(⟨#[27,40,66]⟩:ByteArray).size≤3:=by decide
   by_cases hf:p.first=1
   ·have bf:(p.first==1)=true:=by simp[hf]
    have HF:Hid _:=hf;clear hf;go_wp2_with fail;go_meet;refine⟨_,rfl,?_,?_,rfl⟩
    ·rw[aL,Ja.o,XM,ak HF.o]
    ·rw[iC];omega
   ·have bf:(p.first==1)=false:=by simp[hf]
    have HF:Hid _:=hf;clear hf;go_wp2_with fail;go_meet;exact⟨_,rfl,by rw[Ja.o,ai (by exact HF.o),gp],by omega,rfl⟩
  case rest=>
   generalize hwc:wc=wq at*;clear hwc wc;obtain⟨s5,rfl,hb5,z5,hwq⟩:=hcut;have xz:=hwq.symm;subst xz;clear hwq;obtain⟨T5,Tg⟩:∃T,T=T4++(if p.first=1 then[27,40,66]else[]):=⟨_,rfl⟩;rw[←Tg]at hb5;have Jb:Hid _:=hb5;have Am:Hid _:=Tg;clear hb5 Tg;go_upto_if 42 with fail;go_cut [6] from 40 to 44 (fun s6 wc=>∃s:ByteArray,s6= .string s∧bl s=T5++(if p.second=1 then[27,41,66]else[])∧s.size≤30050∧wc=w5)
   case first=>
    have XM:bl (⟨#[27,41,66]⟩:ByteArray)=[27,41,66]:=by kernel_rfl
    have ez0:(⟨#[27,41,66]⟩:ByteArray).size≤3:=by decide
    by_cases hf:p.second=1
    ·have bf:(p.second==1)=true:=by simp[hf]
     have HF:Hid _:=hf;clear hf;go_wp2_with fail;go_meet;refine⟨_,rfl,?_,?_,rfl⟩
     ·rw[aL,Jb.o,XM,ak HF.o]
     ·rw[iC];omega
    ·have bf:(p.second==1)=false:=by simp[hf]
     have HF:Hid _:=hf;clear hf;go_wp2_with fail;go_meet;exact⟨_,rfl,by rw[Jb.o,ai (by exact HF.o),gp],by omega,rfl⟩
   case rest=>
    generalize hwc:wc=wq at*;clear hwc wc;obtain⟨s6,rfl,hb6,z6,hwq⟩:=hcut;have xz:=hwq.symm;subst xz;clear hwq;obtain⟨T6,Ti⟩:∃T,T=T5++(if p.second=1 then[27,41,66]else[]):=⟨_,rfl⟩;rw[←Ti]at hb6;have SL:Hid _:=hb6;have xR:Hid _:=Ti;clear hb6 Ti;go_upto_if 47 with fail;go_cut [6] from 45 to 49 (fun s6 wc=>∃s:ByteArray,s6= .string s∧bl s=T6++(if p.use=1 then[15]else[])∧s.size≤30060∧wc=w5)
    case first=>
     have XM:bl (⟨#[15]⟩:ByteArray)=[15]:=by kernel_rfl
     have ez0:(⟨#[15]⟩:ByteArray).size≤3:=by decide
     by_cases hf:p.use=1
     ·have bf:(p.use==1)=true:=by simp[hf]
      have HF:Hid _:=hf;clear hf;go_wp2_with fail;go_meet;refine⟨_,rfl,?_,?_,rfl⟩
      ·rw[aL,SL.o,XM,ak HF.o]
      ·rw[iC];omega
     ·have bf:(p.use==1)=false:=by simp[hf]
      have HF:Hid _:=hf;clear hf;go_wp2_with fail;go_meet;exact⟨_,rfl,by rw[SL.o,ai (by exact HF.o),gp],by omega,rfl⟩
    case rest=>
     generalize hwc:wc=wq at*;clear hwc wc;obtain⟨s7,rfl,Zj,z7,hwq⟩:=hcut;have xz:=hwq.symm;subst xz;clear hwq;obtain⟨T7,hT7⟩:∃T,T=T6++(if p.use=1 then[15]else[]):=⟨_,rfl⟩;rw[←hT7]at Zj;have VF:Hid _:=Zj;have xq:Hid _:=hT7;clear Zj hT7;go_wp2_with fail;have Cz:({w5 with drawn:=w5.drawn+1}:World).heap[g3]? =some (.cells (aB p).toArray 82 (0,0)):=HP5.o;have G2:({w5 with drawn:=w5.drawn+1}:World).heap[w.heap.size+1+1]? =some (.cells ([.bool false,.bool false,.bool false,.int .i64 0,.int .i64 0]:List Value).toArray 80 (0,0)):=adJ.o;refine dX (S:=fun y=>y.heap[g3]? =some (.cells (aB p).toArray 82 (0,0))) aX ?_;refine aj 0 Cz ?_;refine aj 1 Cz ?_ (v:=.pointer (some ⟨g3,3,none⟩));simp only[ag,af];refine aj 2 Cz ?_ (v:=.agg (aW p.pen)) (hy:=(kz (by rfl) 80 (.tmp 51) rfl g3 3 rfl (dG p.pen) _ (fun y h=>Ir h) underlying80 rfl eH));refine aj 3 Cz ?_;simp only[ag,af];refine av 4 ?_;refine uo 80 (.tmp 5) (.tmp 52) rfl rfl (w.heap.size+1+1) [.bool false,.bool false,.bool false,.int .i64 0,.int .i64 0] (dG p.pen) rfl rfl 80 G2 rfl eH (jq _) ?_;intro u15 g15 k15;have PU:=(k15.block _ (aK Cz) (by omega)).trans Cz;refine⟨PU,?_⟩
     try simp only[ag,af]
     refine aC ?_;have WW:Hid (Sm w u15):=(aah.o.drewN 1).trans' k15 (fun j hj e=>by omega);have O_:Hid _:=g15;clear Cz PU G2 g15 k15;go_wp2_with fail;refine bX (xI results66 _ _ (w.heap.size+1+1) (dG p.pen) 80 (0,0) underlying80 eH rfl O_.o) rfl ⟨s7,rfl,?_,WW.o⟩;rw[VF.o,xq.o,xR.o,Am.o,rV.o,HT3.o];unfold zI;simp only[f_]
theorem IY{ops:Array Oper}{rest:List Oper}{o:Oper}{Q:Exit→Act→World→Prop}(hgd:o.guard=none)(x y:Operand)(ho:o.op= .binOp .neq 101 x y 101)(c d:aI)(hx:a.eval x= .agg (dw c))(hy:a.eval y= .agg (dw d))(b:Bool)(hb:(!decide (c=d))=b)(h:wpList prog ops Q rest (a.put o.dst (.bool b)) u):wpList prog ops Q (o::rest) a u:=by
 subst hb;refine oq hgd fun K hK=>?_;have R:=hK _ _ h;unfold Oper.wp;rw[Ii x y ho c d hx hy u];exact R
theorem Rm{i k:Nat}{r:List aI}{c:aI}(hr:S[i]? =some r)(hc:r[k]? =some c)(h:c≠aD):WS.oM S=false:=by
 cases e:WS.oM S with
 |false=>rfl
 |true=>unfold WS.oM at e;rw[List.all_eq_true]at e;have e2:=e r (iH hr);rw[List.all_eq_true]at e2;exact absurd (pV (e2 c (iH hc))) h
theorem NA{rows ah:Nat}(hl:S.length=rows)(hc:∀r∈S,r.length=ah)(h:∀i k,i<rows→k<ah→(S.getD i []).getD k aD=aD):WS.oM S=true:=by unfold WS.oM;rw[List.all_eq_true];intro r hr;rw[List.all_eq_true];intro c hcm;obtain⟨i,hi⟩:=List.getElem?_of_mem hr;obtain⟨k,hk⟩:=List.getElem?_of_mem hcm;have h1:=(gJ.1 hi).1;have h2:=(gJ.1 hk).1;have:=h i k (by omega) (by rw[←hc r hr];exact h2);simp only[List.getD,hi,hk,Option.getD_some]at this;exact iP this
theorem EX(wb:Nat)(L:Lay)(s:TS)(hI:s.Inv)(hO:uM s)(n:Nat)(hn:n<2)(x:WS)(w:World)(h:Wr w wb L s x):
 Calls prog 145 #[.pointer (some ⟨wb,0,none⟩),.int .i64 (n:Int)] w fun e w'=>e= .returned (.bool (WS.nQ (s.az n) (s.gW n)))∧Below w.heap.size w w':=by
 have c0:=h.c0;have l1:=sF L s w h.te hI;have hr2:=hI.r2;have hc2:=hI.c2;have HX0:Hid _:=h;have HI:Hid _:=hI;have HO:Hid _:=hO;have KX:∀y,Below w.heap.size w y→Wr y wb L s x:=fun y hy=>h.keep hy;have HKX:Hid _:=KX;clear h hI hO KX;go_enter func145,ntmps145;go_wp2_with (go_at_call 147;refine l1.mono ?_;rintro e w1 ⟨rfl,hw1⟩;have hw2:=hw1.symm;subst hw2);go_loopw [18] (fun j wr=>∃i:Nat,i≤s.rows∧j= .int .i64 i∧Hid (Below w.heap.size w wr)∧Hid (∀a b,a<i→b<s.ah→s.cellAt n a b=aD)) (fun j _=>s.rows-(intOf j).toNat)
 case atStart=>exact⟨0,dx _,rfl,dU _ _,fun a b ha=>by omega⟩
 case round=>
  clear l1 c0;obtain⟨i,hi,rfl,HB,HA⟩:=hrel;by_cases hir:i<s.rows
  ·have iir:(i:Int)<(s.rows:Int):=by omega
   have vi:IntKind.i64.wrap ((i:Int)+1)=(i:Int)+1:=bD _ (by omega);go_wp2_with fail;go_loopw [22] (fun j wr=>∃k:Nat,k≤s.ah∧j= .int .i64 k∧Hid (Below w.heap.size w wr)∧Hid (∀b,b<k→s.cellAt n i b=aD)) (fun j _=>s.ah-(intOf j).toNat)
   case atStart=>exact⟨0,dx _,rfl,HB,fun b hb=>by omega⟩
   case round=>
    clear HB;obtain⟨k,hk,rfl,HB,HD⟩:=hrel;have c0:=(HKX.o _ HB.o).c0;by_cases hkc:k<s.ah
    ·have YE:(k:Int)<(s.ah:Int):=by omega
     have vk:IntKind.i64.wrap ((k:Int)+1)=(k:Int)+1:=bD _ (by omega);have l3:=sI L s n i k hn hir hkc wr (HKX.o _ HB.o).te HI.o;generalize hce:s.cellAt n i k=c at*;have Y9:Hid _:=hce;clear hce;by_cases hcb:c=aD
     ·have HN:Hid ((!decide (c=aD))=false):=by show _=_;rw[iP hcb];rfl
      have Zp:Hid _:=hcb;clear hcb;go_wp2_with fail;refine l3.mono ?_;rintro e x1 ⟨rfl,q1⟩;have HB1:Hid (Below w.heap.size w x1):=HB.o.trans (q1.iB.mono HB.o.size);clear q1;go_wp2_with fail;refine(oH x1).mono ?_;rintro e x2 ⟨rfl,b2⟩;have HB2:Hid (Below w.heap.size w x2):=HB1.o.trans (b2.mono HB1.o.size);clear b2;go_wp2_with (refine IY rfl (.tmp 32) (.tmp 33) rfl c aD rfl rfl false HN.o ?_);go_roundw
      case rel=>exact⟨k+1,by omega,by go_num,HB2,fun b hb=>by
       rcases Nat.lt_succ_iff_lt_or_eq.1 hb with h|h
       ·exact HD.o b h
       ·rw[h];exact Y9.o.trans Zp.o⟩
      case measure=>simp[intOf];omega
     ·have HN:Hid ((!decide (c=aD))=true):=by show _=_;rw[jh hcb];rfl
      have HFR:Hid (WS.nQ (s.az n) (s.gW n)=false):=by
       show _=_;unfold WS.nQ;have hl:=HO.o.l n hn;have ET:(s.az n)[i]? =some ((s.az n).getD i []):=by simp[List.getD,eG (show i<(s.az n).length by omega)]
       have hrl:=(HO.o.r n hn _ (iH ET)).1;have Av:((s.az n).getD i [])[k]? =some c:=by rw[←Y9.o];show _=some (((s.az n).getD i []).getD k aD);simp only[List.getD]at hrl ⊢;rw[eG (by rw[hrl];exact hkc)];rfl
       rw[Rm ET Av hcb];rfl
      go_wp2_with fail;refine l3.mono ?_;rintro e x1 ⟨rfl,q1⟩;have HB1:Hid (Below w.heap.size w x1):=HB.o.trans (q1.iB.mono HB.o.size);clear q1;go_wp2_with fail;refine(oH x1).mono ?_;rintro e x2 ⟨rfl,b2⟩;have HB2:Hid (Below w.heap.size w x2):=HB1.o.trans (b2.mono HB1.o.size);clear b2;go_wp2_with (refine IY rfl (.tmp 32) (.tmp 33) rfl c aD rfl rfl true HN.o ?_);go_ret;exact⟨by rw[HFR.o];rfl,HB2.o⟩
    ·have YE:¬(k:Int)<(s.ah:Int):=by omega
     go_wp2_with fail;go_roundw
     case rel=>exact⟨i+1,by omega,by go_num,HB,fun a b ha hb=>by
      rcases Nat.lt_succ_iff_lt_or_eq.1 ha with h|h
      ·exact HA.o a b h hb
      ·rw[h];exact HD.o b (by omega)⟩
     case measure=>simp[intOf];omega
  ·have iir:¬(i:Int)<(s.rows:Int):=by omega
   have c0:=(HKX.o _ HB.o).c0;have l4:=Cb L s n hn wr (HKX.o _ HB.o).te;have HFR:Hid (WS.nQ (s.az n) (s.gW n)=decide (s.gW n=aY)):=by show _=_;unfold WS.nQ;rw[NA (HO.o.l n hn) (fun r hr=>(HO.o.r n hn r hr).1) (fun a b ha hb=>HA.o a b (by omega) hb),Bool.true_and]
   go_wp2_with fail;refine l4.mono ?_;rintro e x1 ⟨rfl,q1⟩;have HB1:Hid (Below w.heap.size w x1):=HB.o.trans (q1.iB.mono HB.o.size);clear q1;go_wp2_with (refine oQ rfl (.tmp 42) (.tmp 43) rfl (s.gW n) aY rfl _ rfl rfl _ rfl ?_);go_ret;exact⟨by rw[HFR.o];rfl,HB1.o⟩
theorem Sa(L:Lay)(s:TS)(w:World)(ht:cO w L s):Calls prog 75 #[.pointer (some ⟨L.tb,0,none⟩)] w fun e w'=>e= .returned (.agg #[.int .i64 s.row,.int .i64 s.col,.bool s.waits,.bool s.pen.b,.bool s.pen.u,.bool s.pen.t,.int .i64 s.pen.f,.int .i64 s.pen.k,.int .i64 s.first,.int .i64 s.second,.int .i64 s.use,.bool s.origin,.int .i64 s.top,.int .i64 s.bottom,.bool s.wrap,.bool s.insert,.int .i64 s.shown])∧Sm w w':=vY L s w ht
theorem ug(x:WS)(s:TS)(hI:s.Inv)(hO:uM s)(n:Nat)(hn:n<2):(x.screen (s.az n) (s.gW n)).tx.length≤x.tx.length+20000:=by
 have hr2:=hI.r2;have hc2:=hI.c2;have h1:=Ih 40 (s.az n) x 0 (fun r hr=>by have:=(hO.r n hn r hr).1;omega);have h2:(s.az n).length≤12:=by rw[hO.l n hn];omega
 have:=Nat.mul_le_mul_left (32*40) h2;have h3:=Oa (WS.fu x 0 (s.az n)) (s.az n) (s.gW n);show((WS.fu x 0 (s.az n)).saved (s.az n) (s.gW n)).tx.length≤_;omega
theorem KA(wb:Nat)(L:Lay)(s:TS)(hI:s.Inv)(hO:uM s)(x:WS)(w:World)(h:Wr w wb L s x)(hx:x.tx.length≤1000):
 Calls prog 69 #[.pointer (some ⟨wb,0,none⟩)] w fun e w'=>e= .returned (.tuple #[])∧iK w' wb L.tb (x.fV s)∧Wk wb w w':=by
 have l1:=zJ wb L s hI hO 0 (by omega) x w h (by omega);have n1:=ug x s hI hO 0 (by omega);have HX0:Hid _:=h;have HI:Hid _:=hI;have HO:Hid _:=hO;have hsh:=hI.sh;clear h hI hO;go_enter func69,ntmps69;go_wp2_with fail;refine l1.mono ?_;rintro e y1 ⟨rfl,h1,k1⟩;have wz:Hid (Wr y1 wb L s (x.screen (s.az 0) (s.gW 0))):=HX0.o.step k1 h1;have kR:Hid _:=k1;have c0:=wz.o.c0;have l2:=Sa L s y1 wz.o.te;have hfd:∀u:World,(Instr.field 84 (.agg #[.int .i64 s.row,.int .i64 s.col,.bool s.waits,.bool s.pen.b,.bool s.pen.u,.bool s.pen.t,.int .i64 s.pen.f,.int .i64 s.pen.k,.int .i64 s.first,.int .i64 s.second,.int .i64 s.use,.bool s.origin,.int .i64 s.top,.int .i64 s.bottom,.bool s.wrap,.bool s.insert,.int .i64 s.shown]) 5).run prog u= .ok (.int .i64 s.shown) u:=by intro u;kernel_rfl
 obtain⟨x1,hx1⟩:∃x1,x1=x.screen (s.az 0) (s.gW 0):=⟨_,rfl⟩;rw[←hx1]at wz n1;have Uf:Hid (x.fV s=x1.second s):=by show _=_;rw[hx1];rfl
 clear h1 k1 l1 hx1;rcases hsh with hsh|hsh
 ·have HNS:Hid _:=hsh;have hs0:(s.shown==1)=false:=by rw[hsh];rfl
  clear hsh;go_wp2_with fail;refine l2.mono ?_;rintro e y2 ⟨rfl,q2⟩;have xZ:Hid (Wr y2 wb L s x1):=wz.o.keep q2.iB;have mD:Hid (Wk wb w y2):=kR.o.trans (Wk.of_below q2.iB (kW wz.o.lt));clear q2 l2 c0;have l3:=EX wb L s HI.o HO.o 1 (by omega) x1 y2 xZ.o;cases hfr:WS.nQ (s.az 1) (s.gW 1)with
  |true=>
   have sP:Hid (x.fV s=x1):=by show _=_;rw[Uf.o];unfold WS.second;rw[ai (by rw[HNS.o];decide),show WS.nQ s.s1 s.v1=true from hfr,ak rfl]
   rw[hfr]at l3;go_wp2_with fail;refine l3.mono ?_;rintro e y3 ⟨rfl,b3⟩;have HF:Hid (iK y3 wb L.tb (x.fV s)∧Wk wb w y3):=⟨by rw[sP.o];exact xZ.o.wr.keep b3,mD.o.trans (Wk.of_below b3 (kW xZ.o.lt))⟩;clear b3 l3;go_wp2_with fail;refine bX (dz rfl _ _ _) rfl ?_;exact⟨rfl,HF.o.1,HF.o.2⟩
  |false=>
   have sP:Hid (x.fV s=((x1.seq [63,52,55,104]).screen (s.az 1) (s.gW 1)).seq [63,52,55,108]):=by show _=_;rw[Uf.o];unfold WS.second;rw[ai (by rw[HNS.o];decide),show WS.nQ s.s1 s.v1=false from hfr,ai (by decide)];rfl
   rw[hfr]at l3;go_wp2_with fail;refine l3.mono ?_;rintro e y3 ⟨rfl,b3⟩;have wD:Hid (Wr y3 wb L s x1):=xZ.o.keep b3;have Ep:Hid (Wk wb w y3):=mD.o.trans (Wk.of_below b3 (kW xZ.o.lt));have l4:=gT wb L.tb x1 {data:=#[63,52,55,104]} y3 wD.o.wr (by omega) (by decide);rw[show bl ({data:=#[63,52,55,104]}:ByteArray)=[63,52,55,104] by rfl]at l4;have n4:=kZ x1 [63,52,55,104];simp only[fE,eP]at n4;clear b3 l3 xZ mD;go_wp2_with fail;refine l4.mono ?_;rintro e y4 ⟨rfl,h4,k4⟩;have FR:Hid (Wr y4 wb L s (x1.seq [63,52,55,104])):=wD.o.step k4 h4;have qY:Hid (Wk wb w y4):=Ep.o.trans k4;have l5:=zJ wb L s HI.o HO.o 1 (by omega) (x1.seq [63,52,55,104]) y4 FR.o (by omega);have n5:=ug (x1.seq [63,52,55,104]) s HI.o HO.o 1 (by omega);clear h4 k4 l4 wD Ep;go_wp2_with fail;refine l5.mono ?_;rintro e y5 ⟨rfl,h5,k5⟩;have Jg:Hid (Wk wb w y5):=qY.o.trans k5;have l6:=gT wb L.tb ((x1.seq [63,52,55,104]).screen (s.az 1) (s.gW 1)) {data:=#[63,52,55,108]} y5 h5 (by omega) (by decide);rw[show bl ({data:=#[63,52,55,108]}:ByteArray)=[63,52,55,108] by rfl]at l6;clear h5 k5 l5 FR qY;go_wp2_with fail;refine l6.mono ?_;rintro e y6 ⟨rfl,h6,k6⟩;have HF:Hid (iK y6 wb L.tb (x.fV s)∧Wk wb w y6):=⟨by rw[sP.o];exact h6,Jg.o.trans k6⟩;clear h6 k6 l6;go_wp2_with fail;go_end0;exact⟨rfl,HF.o.1,HF.o.2⟩
 ·have sP:Hid (x.fV s=(x1.seq [63,52,55,104]).screen (s.az 1) (s.gW 1)):=by show _=_;rw[Uf.o];unfold WS.second;rw[ak hsh];rfl
  have hs0:(s.shown==1)=true:=by rw[hsh];rfl
  clear hsh;go_wp2_with fail;refine l2.mono ?_;rintro e y3 ⟨rfl,q2⟩;have wD:Hid (Wr y3 wb L s x1):=wz.o.keep q2.iB;have Ep:Hid (Wk wb w y3):=kR.o.trans (Wk.of_below q2.iB (kW wz.o.lt));have l4:=gT wb L.tb x1 {data:=#[63,52,55,104]} y3 wD.o.wr (by omega) (by decide);rw[show bl ({data:=#[63,52,55,104]}:ByteArray)=[63,52,55,104] by rfl]at l4;have n4:=kZ x1 [63,52,55,104];simp only[fE,eP]at n4;clear q2 l2 c0;go_wp2_with fail;refine l4.mono ?_;rintro e y4 ⟨rfl,h4,k4⟩;have FR:Hid (Wr y4 wb L s (x1.seq [63,52,55,104])):=wD.o.step k4 h4;have qY:Hid (Wk wb w y4):=Ep.o.trans k4;have l5:=zJ wb L s HI.o HO.o 1 (by omega) (x1.seq [63,52,55,104]) y4 FR.o (by omega);clear h4 k4 l4 wD Ep;go_wp2_with fail;refine l5.mono ?_;rintro e y5 ⟨rfl,h5,k5⟩;have HF:Hid (iK y5 wb L.tb (x.fV s)∧Wk wb w y5):=⟨by rw[sP.o];exact h5,qY.o.trans k5⟩;clear h5 k5 l5;go_wp2_with fail;go_end0;exact⟨rfl,HF.o.1,HF.o.2⟩
end Go.Proofs.YtheibfffilomcaaGreatDoor
