import Derived.Test.YtheibfffilomcaaGreatDoorTmaU
import Derived.Test.YtheibfffilomcaaGreatDoorWdU
import Derived.Test.YtheibfffilomcaaGreatDoorVjU
import Derived.Test.YtheibfffilomcaaGreatDoorZk
import Derived.Test.YtheibfffilomcaaGreatDoorZdU
import Derived.Lib.UnsafeStr
import Derived.BigRegion
set_option linter.all false
set_option maxRecDepth 100000
set_option maxHeartbeats 1000000
namespace Go.Proofs.YtheibfffilomcaaGreatDoor
open Go.RowKit Go.Proofs.Tryz
variable {s:TS}
namespace WS
def pre (a:List Int) (w:WS):WS:=⟨a++w.tx,w.pen⟩
theorem kY(a:List Int)(w:WS)(l:List Int):(pre a w).put l=pre a (w.put l):=by simp[pre,put]
theorem Fe(a:List Int)(w:WS)(l:List Int):(pre a w).seq l=pre a (w.seq l):=kY _ _ _
theorem zD(a:List Int)(w:WS)(r c:Int):(pre a w).place r c=pre a (w.place r c):=kY _ _ _
theorem Ia(a:List Int)(w:WS)(p:fO):(pre a w).turn p=pre a (w.turn p):=by
 unfold turn;by_cases h:p=w.pen
 ·rw[ak h,ak (show p=(pre a w).pen from h)]
 ·rw[ai h,ai (show¬p=(pre a w).pen from h)];exact kY a ⟨w.tx,p⟩ _
theorem jy(a:List Int)(c:Prop)[Decidable c](x y:WS):pre a (if c then x else y)=if c then pre a x else pre a y:=by split<;>rfl
theorem yB(a:List Int)(w:WS)(c:aI):(pre a w).cell c=pre a (w.cell c):=by unfold cell;rw[jy,Ia,kY]
theorem Rn(a:List Int)(w:WS)(row:Int)(k:Nat)(b c:aI):(pre a w).jL row k b c=pre a (w.jL row k b c):=by unfold jL;rw[jy, ←yB,jy,zD]
theorem BK(a:List Int)(row:Int):∀(l:List aI) (w:WS) (k:Nat) (b:aI),runs row (pre a w) k b l=pre a (runs row w k b l):=by
 intro l;induction l with
 |nil=>intro w k b;rfl
 |cons c l ih=>intro w k b;rw[runs,runs,Rn,ih]
theorem H_(a:List Int):∀(S:bS) (w:WS) (i:Nat),fu (pre a w) i S=pre a (fu w i S):=by
 intro S;induction S with
 |nil=>intro w i;rfl
 |cons r S ih=>intro w i;rw[fu,fu,BK,ih]
theorem Ki(a:List Int)(w:WS)(S:bS)(p:di)(top:Int):(pre a w).aZ S p top=pre a (w.aZ S p top):=by
 have h1:∀w,(pre a w).q9 p=pre a (w.q9 p):=fun w=>by unfold q9;rw[jy,Fe]
 have h2:∀w row,(pre a w).rH S p row=pre a (w.rH S p row):=fun w row=>by unfold rH bP;rw[jy,jy,zD,zD,yB,yB]
 have h4:∀w,(pre a w).rQ p=pre a (w.rQ p):=fun w=>by unfold rQ;rw[jy,kY]
 have h5:∀w,(pre a w).sK p=pre a (w.sK p):=fun w=>by unfold sK;rw[jy,kY]
 have h6:∀w,(pre a w).sU p=pre a (w.sU p):=fun w=>by unfold sU;rw[jy,kY]
 unfold aZ;rw[h1,h2,Ia,h4,h5,h6]
theorem DN(a:List Int)(w:WS)(S:bS)(p:di):(pre a w).saved S p=pre a (w.saved S p):=by
 have h1:∀w,(pre a w).bk1 p=pre a (w.bk1 p):=fun w=>by unfold bk1;rw[jy,Fe]
 have h2:∀w,(pre a w).bk2 p=pre a (w.bk2 p):=fun w=>by unfold bk2;rw[jy,kY]
 have h3:∀w,(pre a w).y_ p=pre a (w.y_ p):=fun w=>by unfold y_;rw[jy,kY]
 have h4:∀w,(pre a w).zn p=pre a (w.zn p):=fun w=>by unfold zn;rw[jy,kY]
 unfold saved bW;rw[jy,Ki,kY,h1,h2,h3,h4]
theorem Kh(a:List Int)(w:WS)(S:bS)(p:di):(pre a w).screen S p=pre a (w.screen S p):=by unfold screen;rw[H_,DN]
theorem vR{F:WS→WS}(h:∀a w,F (pre a w)=pre a (F w))(w:WS):w.tx.length≤(F w).tx.length:=by
 have:=h w.tx ⟨[],w.pen⟩;have e:pre w.tx ⟨[],w.pen⟩=w:=by simp[pre]
 rw[e]at this;rw[this];simp[pre]
theorem Kg(w:WS)(r c:Int):w.tx.length<(w.place r c).tx.length:=by simp[place,seq,put]
theorem N8(row:Int):∀(l:List aI) (w:WS) (k:Nat),(∃c∈l,c≠aD)→w.tx.length<(runs row w k aD l).tx.length:=by
 intro l;induction l with
 |nil=>intro w k ⟨c,hc,_⟩;cases hc
 |cons c l ih=>
  intro w k ⟨x,hx,hn⟩;rw[runs];by_cases hc:c=aD
  ·subst hc;have hr:w.jL row k aD aD=w:=by unfold jL;rw[ak rfl]
   rw[hr];rcases kK.1 hx with rfl|hx
   ·exact absurd rfl hn
   ·exact ih w _ ⟨x,hx,hn⟩
  ·have g1:w.tx.length<(w.jL row k aD c).tx.length:=by unfold jL;rw[ai hc,ak rfl];exact fJ (Kg w _ _) (vR (F:=fun w=>w.cell c) (fun a w=>yB a w c) _)
   exact fJ g1 (vR (F:=fun w=>runs row w (k+1) c l) (fun a w=>BK a row l w _ _) _)
theorem NQ:∀(S:bS) (w:WS) (i:Nat),oM S=false→w.tx.length<(fu w i S).tx.length:=by
 intro S;induction S with
 |nil=>intro w i h;cases h
 |cons r S ih=>
  intro w i h;rw[fu];by_cases hr:r.all (fun c=>decide (c=aD))=true
  ·have:oM S=false:=by unfold oM at h ⊢;rw[List.all_cons,hr]at h;simpa using h
   exact Nat.lt_of_le_of_lt (vR (F:=fun w=>runs i w 0 aD r) (fun a w=>BK a i r w _ _) w) (ih _ _ this)
  ·have:∃c∈r,c≠aD:=by simpa using hr
   exact fJ (N8 i r w 0 this) (vR (F:=fun w=>fu w (i+1) S) (fun a w=>H_ a S w _) _)
theorem Kw(row:Int):∀(l:List aI) (w:WS) (k:Nat),l.all (fun c=>decide (c=aD))=true→runs row w k aD l=w:=by
 intro l;induction l with
 |nil=>intro w k _;rfl
 |cons c l ih=>
  intro w k h;rw[List.all_cons,Bool.and_eq_true,AR]at h;rw[runs,h.1];have hr:w.jL row k aD aD=w:=by unfold jL;rw[ak rfl]
  rw[hr,ih w _ h.2]
theorem BR:∀(S:bS) (w:WS) (i:Nat),oM S=true→fu w i S=w:=by
 intro S;induction S with
 |nil=>intro w i _;rfl
 |cons r S ih=>intro w i h;unfold oM at h;rw[List.all_cons,Bool.and_eq_true]at h;rw[fu,Kw _ _ _ _ h.1,ih w _ h.2]
theorem Fp(w:WS)(S:bS)(p:di)(h:nQ S p=true):w.screen S p=w:=by unfold nQ at h;rw[Bool.and_eq_true,AR]at h;unfold screen;rw[BR _ _ _ h.1];unfold saved;rw[ak h.2]
theorem Ik(q:fO)(S:bS)(p:di)(h:nQ S p=false):((⟨[],q⟩:WS).screen S p).tx≠[]:=by
 intro e;have e0:((⟨[],q⟩:WS).screen S p).tx.length=0:=by rw[e];rfl
 unfold screen at e0;by_cases hp:oM S=true
 ·have hv:p≠aY:=fun e=>by unfold nQ at h;rw[hp,e]at h;simp at h
  rw[BR _ _ _ hp]at e0;unfold saved at e0;rw[ai hv]at e0;have g:((⟨[],q⟩:WS).aZ S p 0).tx.length<(((⟨[],q⟩:WS).aZ S p 0).put [27,55]).tx.length:=by simp[put]
  have g2:=vR (F:=fun w=>w.bW p) (fun a w=>by
   have h1:∀w,(pre a w).bk1 p=pre a (w.bk1 p):=fun w=>by unfold bk1;rw[jy,Fe]
   have h2:∀w,(pre a w).bk2 p=pre a (w.bk2 p):=fun w=>by unfold bk2;rw[jy,kY]
   have h3:∀w,(pre a w).y_ p=pre a (w.y_ p):=fun w=>by unfold y_;rw[jy,kY]
   have h4:∀w,(pre a w).zn p=pre a (w.zn p):=fun w=>by unfold zn;rw[jy,kY]
   show(pre a w).bW p=_
   unfold bW;rw[h1,h2,h3,h4]) (((⟨[],q⟩:WS).aZ S p 0).put [27,55])
  omega
 ·have hp':oM S=false:=by simpa using hp
  have g:=NQ S ⟨[],q⟩ 0 hp';have g2:=vR (F:=fun w=>w.saved S p) (fun a w=>DN a w S p) (fu ⟨[],q⟩ 0 S);omega
theorem KC(w:WS)(s:TS)(hs:s.shown=0∨s.shown=1):w.second s=if s.shown=1∨((⟨[],w.pen⟩:WS).screen s.s1 s.v1).tx≠[]then(if s.shown=0 then(⟨w.tx++([27,91,63,52,55,104]++((⟨[],w.pen⟩:WS).screen s.s1 s.v1).tx)++[27,91,63,52,55,108],((⟨[],w.pen⟩:WS).screen s.s1 s.v1).pen⟩:WS)else⟨w.tx++([27,91,63,52,55,104]++((⟨[],w.pen⟩:WS).screen s.s1 s.v1).tx),((⟨[],w.pen⟩:WS).screen s.s1 s.v1).pen⟩)else w:=by
 have e:(w.seq [63,52,55,104]).screen s.s1 s.v1=pre (w.tx++[27,91,63,52,55,104]) ((⟨[],w.pen⟩:WS).screen s.s1 s.v1):=by rw[←Kh];simp[pre,seq,put]
 unfold second;rw[e];rcases hs with h0|h1
 ·rw[ai (by omega)];by_cases hf:nQ s.s1 s.v1=true
  ·have hn:((⟨[],w.pen⟩:WS).screen s.s1 s.v1).tx=[]:=by rw[Fp _ _ _ hf]
   rw[ak hf,ai (by rintro(x|x);omega;exact x hn)]
  ·rw[ai hf,ak (.inr (Ik _ _ _ (by simpa using hf))),ak h0];simp[pre,seq,put]
 ·rw[ak h1,ak (.inl h1),ai (by omega)];simp[pre]
end WS
theorem Kn(x:WS)(s:TS):(x.region s).tx.length≤x.tx.length+8:=by
 unfold WS.region;split
 ·have h1:=o_ (s.top+1);have h2:=o_ (s.bottom+1);rw[kZ,fU];unfold lY;simp only[fU,fE,eP];omega
 ·omega
theorem qU{y:World}{nb:Nat}(h:y.heap[nb]? =some (.cells (xM s).toArray 84 (0,0))):
 y.cell? ⟨nb,12,none⟩=some (.int .i64 s.top)∧y.cell? ⟨nb,13,none⟩=some (.int .i64 s.bottom)∧y.cell? ⟨nb,14,none⟩=some (.bool s.wrap)∧y.cell? ⟨nb,15,none⟩=some (.bool s.insert)∧y.cell? ⟨nb,16,none⟩=some (.int .i64 s.shown):=
 ⟨(bG _ _ _ _ _ _ h).trans rfl,(bG _ _ _ _ _ _ h).trans rfl,(bG _ _ _ _ _ _ h).trans rfl,(bG _ _ _ _ _ _ h).trans rfl,(bG _ _ _ _ _ _ h).trans rfl⟩
theorem NJ(wb:Nat)(L:Lay)(s:TS)(hI:s.Inv)(x:WS)(w:World)(h:Wr w wb L s x)(hx:x.tx.length≤200000):
 Calls prog 71 #[.pointer (some ⟨wb,0,none⟩)] w fun e w'=>e= .returned (.tuple #[])∧iK w' wb L.tb (x.region s)∧Wk wb w w':=by
 have hr1:=hI.r1;have hr2:=hI.r2;obtain⟨tp,htp⟩:∃tp:Nat,s.top=(tp:Int):=⟨s.top.toNat,by have:=hI.iO;omega⟩;obtain⟨bt,hbt⟩:∃bt:Nat,s.bottom=(bt:Int):=⟨s.bottom.toNat,by have:=hI.iO;have:=hI.tb;omega⟩;have hbl:bt<s.rows:=by have:=hI.bot;omega
 have htl:tp≤bt:=by have:=hI.tb;omega
 have HI:Hid _:=hI;have HT:Hid _:=htp;have HB:Hid _:=hbt;clear hI htp hbt;have c0:=h.c0;have hlt:=h.lt;have l1:=vY L s w h.te;have HX0:Hid _:=h;clear h;go_enter func71,ntmps71;go_wp2_with fail;refine l1.mono ?_;rintro e x1 ⟨rfl,q1⟩;go_wp2_with (refine bK _ rfl 84 (.tmp 2) (.tmp 9) rfl x1.heap.size [.int .i64 0,.int .i64 0,.bool false,.bool false,.bool false,.bool false,.int .i64 0,.int .i64 0,.int .i64 0,.int .i64 0,.int .i64 0,.bool false,.int .i64 0,.int .i64 0,.bool false,.bool false,.int .i64 0] (xM s) rfl _ rfl rfl 84 (bV _ _) rfl zw (yL s) ?_);intro y1 g1 k1 z1;have hq1:w.heap.size≤x1.heap.size:=q1.size;have B1:Below w.heap.size w y1:=(q1.iB.alloc q1.size (.cells [.int .i64 0,.int .i64 0,.bool false,.bool false,.bool false,.bool false,.int .i64 0,.int .i64 0,.int .i64 0,.int .i64 0,.int .i64 0,.bool false,.int .i64 0,.int .i64 0,.bool false,.bool false,.int .i64 0].toArray 84)).trans (k1.below (by simp;omega) (fun k hk e=>by omega));have wz:Hid (Wr y1 wb L s x):=HX0.o.keep B1;have kR:Hid (Wk wb w y1):=Wk.of_below B1 (kW hlt);obtain⟨nb,hnb⟩:∃nb,nb=x1.heap.size:=⟨_,rfl⟩;rw[←hnb];rw[←hnb]at g1;have hwn:wb<nb:=by omega
 have nZ:Hid _:=g1;clear g1 k1 z1 q1 B1 HX0 c0 l1 hnb;have c1:=wz.o.c0;have cT:=(qU nZ.o).1;have cB:=(qU nZ.o).2.1;rw[HT.o]at cT;rw[HB.o]at cB;have l2:=sF L s y1 wz.o.te HI.o;have l3:=H7 tp bt (by omega) (by omega) y1;have zp:=BD (tp:Int) (bt:Int);have l4:=gT wb L.tb x (si (tp:Int) (bt:Int)++{data:=#[114]}) y1 wz.o.wr (by omega) (by rw[iC];show(si (tp:Int) (bt:Int)).size+1≤_;omega);rw[aL,H6 (by omega) (by omega),show bl ({data:=#[114]}:ByteArray)=[114] by kernel_rfl]at l4;have v1:IntKind.i64.wrap ((s.rows:Int)-1)=(s.rows:Int)-1:=bD _ (by omega);generalize si (tp:Int) (bt:Int)=D at*;by_cases ht:tp=0
 ·have t0:((tp:Int) != 0)=false:=by simp;omega
  by_cases hb:bt=s.rows-1
  ·have b0:((bt:Int) != (s.rows:Int)-1)=false:=by simp;omega
   have sP:Hid (x.region s=x):=by show _=_;unfold WS.region;rw[HT.o,HB.o,ai (by omega)]
   clear ht hb;go_wp2_with fail;refine l2.mono ?_;rintro e w2 ⟨rfl,hw2⟩;obtain rfl:=hw2.symm;go_wp2_with fail;go_end0;exact⟨rfl,by rw[sP.o];exact wz.o.wr,kR.o⟩
  ·have b0:((bt:Int) != (s.rows:Int)-1)=true:=by simp;omega
   have sP:Hid (x.region s=x.seq (lY (tp:Int) (bt:Int)++[114])):=by show _=_;unfold WS.region;rw[HT.o,HB.o,ak (by omega)]
   clear ht hb;go_wp2_with fail;refine l2.mono ?_;rintro e w2 ⟨rfl,hw2⟩;obtain rfl:=hw2.symm;go_wp2_with fail;refine l3.mono ?_;rintro e w3 ⟨rfl,hw3⟩;obtain rfl:=hw3.symm;go_wp2_with fail;refine l4.mono ?_;rintro e y5 ⟨rfl,h5,k5⟩;have HF:Hid (iK y5 wb L.tb (x.region s)∧Wk wb w y5):=⟨by rw[sP.o];exact h5,kR.o.trans k5⟩;clear h5 k5;go_wp2_with fail;go_end0;exact⟨rfl,HF.o.1,HF.o.2⟩
 ·have t0:((tp:Int) != 0)=true:=by simp;omega
  have sP:Hid (x.region s=x.seq (lY (tp:Int) (bt:Int)++[114])):=by show _=_;unfold WS.region;rw[HT.o,HB.o,ak (by omega)]
  clear ht;go_wp2_with fail;refine l2.mono ?_;rintro e w2 ⟨rfl,hw2⟩;obtain rfl:=hw2.symm;go_wp2_with fail;refine l3.mono ?_;rintro e w3 ⟨rfl,hw3⟩;obtain rfl:=hw3.symm;go_wp2_with fail;refine l4.mono ?_;rintro e y5 ⟨rfl,h5,k5⟩;have HF:Hid (iK y5 wb L.tb (x.region s)∧Wk wb w y5):=⟨by rw[sP.o];exact h5,kR.o.trans k5⟩;clear h5 k5;go_wp2_with fail;go_end0;exact⟨rfl,HF.o.1,HF.o.2⟩
theorem U7(wb tb:Nat)(x:WS)(w:World)(h:iK w wb tb x):Calls prog 152 #[.pointer (some ⟨wb,1,none⟩)] w fun e w'=>e= .returned (.int .i64 (x.tx.length:Int))∧w'=w:=by
 obtain⟨p,v,h1,h2,h3⟩:=h.ex;obtain⟨ao,nn,cc,rfl,hn⟩:∃ao nn cc,v= .slice ao nn cc∧nn=x.tx.length:=by
  rcases h3.2 with⟨rfl,e⟩|⟨g,cap,cur,rfl,_⟩
  ·exact⟨_,_,_,rfl,e.symm⟩
  ·exact⟨_,_,_,rfl,rfl⟩
 have c2:w.cell? ⟨wb,2,none⟩=some (.slice ao nn cc):=(bG _ _ _ _ _ _ h1).trans rfl;have HN:Hid _:=hn;clear h h1 h2 h3 hn;go_enter func152,ntmps152;go_wp2_with fail;go_ret;exact⟨by rw[←HN.o];rfl,rfl⟩
theorem Iq(wb:Nat)(L:Lay)(s:TS)(x:WS)(w:World)(h:Wr w wb L s x)(hx:x.tx.length≤300000):
 Calls prog 73 #[.pointer (some ⟨wb,0,none⟩)] w fun e w'=>e= .returned (.tuple #[])∧iK w' wb L.tb ((x.zK s).zL s)∧Wk wb w w':=by
 have c0:=h.c0;have hlt:=h.lt;have l1:=vY L s w h.te;have HX0:Hid _:=h;clear h;go_enter func73,ntmps73;go_wp2_with fail;refine l1.mono ?_;rintro e x1 ⟨rfl,q1⟩;go_wp2_with (refine bK _ rfl 84 (.tmp 2) (.tmp 7) rfl x1.heap.size [.int .i64 0,.int .i64 0,.bool false,.bool false,.bool false,.bool false,.int .i64 0,.int .i64 0,.int .i64 0,.int .i64 0,.int .i64 0,.bool false,.int .i64 0,.int .i64 0,.bool false,.bool false,.int .i64 0] (xM s) rfl _ rfl rfl 84 (bV _ _) rfl zw (yL s) ?_);intro y1 g1 k1 z1;have hq1:w.heap.size≤x1.heap.size:=q1.size;have B1:Below w.heap.size w y1:=(q1.iB.alloc q1.size (.cells [.int .i64 0,.int .i64 0,.bool false,.bool false,.bool false,.bool false,.int .i64 0,.int .i64 0,.int .i64 0,.int .i64 0,.int .i64 0,.bool false,.int .i64 0,.int .i64 0,.bool false,.bool false,.int .i64 0].toArray 84)).trans (k1.below (by simp;omega) (fun k hk e=>by omega));have wz:Hid (Wr y1 wb L s x):=HX0.o.keep B1;have kR:Hid (Wk wb w y1):=Wk.of_below B1 (kW hlt);obtain⟨nb,hnb⟩:∃nb,nb=x1.heap.size:=⟨_,rfl⟩;rw[←hnb];rw[←hnb]at g1;have hwn:wb<nb:=by omega
 have nZ:Hid _:=g1;clear g1 k1 z1 q1 B1 HX0 c0 l1 hnb;have cI:=(qU nZ.o).2.2.2.1;have cW:=(qU nZ.o).2.2.1;cases hbi:s.insert with
 |false=>
  rw[hbi]at cI;cases hbw:s.wrap with
  |true=>
   rw[hbw]at cW;have sP:Hid ((x.zK s).zL s=x):=by show _=_;unfold WS.zL WS.zK;rw[hbi,hbw];rfl
   clear hbi hbw;go_wp2_with fail;go_end0;exact⟨rfl,by rw[sP.o];exact wz.o.wr,kR.o⟩
  |false=>
   rw[hbw]at cW;have sP:Hid ((x.zK s).zL s=x.seq [63,55,108]):=by show _=_;unfold WS.zL WS.zK;rw[hbi,hbw];rfl
   have l3:=gT wb L.tb x {data:=#[63,55,108]} y1 wz.o.wr (by omega) (by decide);rw[show bl ({data:=#[63,55,108]}:ByteArray)=[63,55,108] by rfl, ←sP.o]at l3;clear hbi hbw;go_wp2_with fail;refine l3.mono ?_;rintro e y3 ⟨rfl,h3,k3⟩;have HF:Hid (iK y3 wb L.tb ((x.zK s).zL s)∧Wk wb w y3):=⟨h3,kR.o.trans k3⟩;clear h3 k3;go_wp2_with fail;go_end0;exact⟨rfl,HF.o.1,HF.o.2⟩
 |true=>
  rw[hbi]at cI;have l2:=gT wb L.tb x {data:=#[52,104]} y1 wz.o.wr (by omega) (by decide);rw[show bl ({data:=#[52,104]}:ByteArray)=[52,104] by rfl]at l2;have n2:=kZ x [52,104];simp only[fE,eP]at n2;have HBI:Hid _:=hbi;clear hbi cW;go_wp2_with fail;refine l2.mono ?_;rintro e y2 ⟨rfl,h2,k2⟩;have HG2:Hid (y2.heap[nb]? =some (.cells (xM s).toArray 84 (0,0))):=k2.at nZ.o (by omega) (by decide);have mD:Hid (Wk wb w y2):=kR.o.trans k2;have cW:=(qU HG2.o).2.2.1;have HW2:Hid _:=h2;have l3:=gT wb L.tb (x.seq [52,104]) {data:=#[63,55,108]} y2 h2 (by omega) (by decide);rw[show bl ({data:=#[63,55,108]}:ByteArray)=[63,55,108] by rfl]at l3;clear h2 k2 l2 cI;cases hbw:s.wrap with
  |true=>
   rw[hbw]at cW;have sP:Hid ((x.zK s).zL s=x.seq [52,104]):=by show _=_;unfold WS.zL WS.zK;rw[HBI.o,hbw];rfl
   clear hbw;go_wp2_with fail;go_end0;exact⟨rfl,by rw[sP.o];exact HW2.o,mD.o⟩
  |false=>
   rw[hbw]at cW;have sP:Hid ((x.zK s).zL s=(x.seq [52,104]).seq [63,55,108]):=by show _=_;unfold WS.zL WS.zK;rw[HBI.o,hbw];rfl
   rw[←sP.o]at l3;clear hbw;go_wp2_with fail;refine l3.mono ?_;rintro e y3 ⟨rfl,h3,k3⟩;have HF:Hid (iK y3 wb L.tb ((x.zK s).zL s)∧Wk wb w y3):=⟨h3,mD.o.trans k3⟩;clear h3 k3;go_wp2_with fail;go_end0;exact⟨rfl,HF.o.1,HF.o.2⟩
structure Da (s:TS):Prop where
 v:zl s s.spot
 o:s.origin=true→s.top≤s.row
theorem MX(wb:Nat)(L:Lay)(s:TS)(hI:s.Inv)(hO:uM s)(hC:Da s)(x:WS)(w:World)(h:Wr w wb L s x)(hx:x.tx.length≤300000):
 Calls prog 72 #[.pointer (some ⟨wb,0,none⟩)] w fun e w'=>e= .returned (.tuple #[])∧iK w' wb L.tb (x.lM s)∧Wk wb w w':=by
 have HI:Hid _:=hI;have HO:Hid _:=hO;have HC:Hid _:=hC;clear hI hO hC;have c0:=h.c0;have hlt:=h.lt;have l1:=vY L s w h.te;have HX0:Hid _:=h;clear h;go_enter func72,ntmps72;go_wp2_with fail;refine l1.mono ?_;rintro e x1 ⟨rfl,q1⟩;go_wp2_with (refine bK _ rfl 84 (.tmp 2) (.tmp 7) rfl x1.heap.size [.int .i64 0,.int .i64 0,.bool false,.bool false,.bool false,.bool false,.int .i64 0,.int .i64 0,.int .i64 0,.int .i64 0,.int .i64 0,.bool false,.int .i64 0,.int .i64 0,.bool false,.bool false,.int .i64 0] (xM s) rfl _ rfl rfl 84 (bV _ _) rfl zw (yL s) ?_);intro y1 g1 k1 z1;have hq1:w.heap.size≤x1.heap.size:=q1.size;have B1:Below w.heap.size w y1:=(q1.iB.alloc q1.size (.cells [.int .i64 0,.int .i64 0,.bool false,.bool false,.bool false,.bool false,.int .i64 0,.int .i64 0,.int .i64 0,.int .i64 0,.int .i64 0,.bool false,.int .i64 0,.int .i64 0,.bool false,.bool false,.int .i64 0].toArray 84)).trans (k1.below (by simp;omega) (fun k hk e=>by omega));have wz:Hid (Wr y1 wb L s x):=HX0.o.keep B1;have kR:Hid (Wk wb w y1):=Wk.of_below B1 (kW hlt);obtain⟨nb,hnb⟩:∃nb,nb=x1.heap.size:=⟨_,rfl⟩;rw[←hnb];rw[←hnb]at g1;have hwn:wb<nb:=by omega
 have nZ:Hid _:=g1;clear g1 k1 z1 q1 B1 HX0 c0 l1 hnb;have HR:Hid (y1.rangeAt nb 0 (aB s.spot)):=nV nZ.o 0 _ rfl;have cS:=(qU nZ.o).2.2.2.2;have cT:=(qU nZ.o).1;have l2:=U7 wb L.tb x y1 wz.o.wr;obtain⟨⟨pr0,pr1⟩,⟨pc0,pc1⟩,hfit⟩:=HC.o.v;have hr2:=HI.o.r2;have hto:=HC.o.o;have ht0:=HI.o.iO;have HFI:Hid _:=hfit;obtain⟨n,hn,hsn,mF⟩:∃n:Nat,n<2∧s.shown=(n:Int)∧s.az n=s.cur:=by
  rcases HI.o.sh with h|h
  ·exact⟨0,by omega,h,by unfold TS.cur TS.az;rw[ak h];rfl⟩
  ·exact⟨1,by omega,h,(ai (by omega:¬s.shown=0):(if s.shown=0 then s.s0 else s.s1)=s.s1).symm⟩
 rw[hsn]at cS;have hsr:s.spot.row=s.row:=rfl;have hso:s.spot.origin=s.origin:=rfl;obtain⟨r,hr,ae6⟩:∃r:Nat,(if s.spot.origin then s.spot.row-s.top else s.spot.row)=(r:Int)∧r<90:=by
  rw[hso];cases ho:s.origin with
  |true=>have:=hto ho;exact⟨(s.spot.row-s.top).toNat,by rw[ak rfl];omega,by omega⟩
  |false=>exact⟨s.spot.row.toNat,by rw[ai (by decide)];omega,by omega⟩
 have l3:=Eg wb L s HI.o HO.o.c n s.spot.row.toNat s.spot.col.toNat r s.top hn (by omega) (by omega) ae6 s.spot (by omega) (by omega) hfit.p hfit.f hfit.sc hfit.u hr x y1 wz.o (by omega);rw[mF]at l3;have Y9:Hid (∀c:Prop,c=(s.spot=aY∧x.tx.length=0)→(c→x.lM s=x)∧(¬c→x.lM s=x.aZ s.cur s.spot s.top)):=by rintro c rfl;exact⟨fun h=>by unfold WS.lM;rw[ak h],fun h=>by unfold WS.lM;rw[ai h]⟩
 clear pr0 pr1 pc0 pc1 hfit hto ht0 hsn mF hsr hso hr hn;by_cases hp0:s.spot=aY
 ·have HD:Hid (decide (s.spot=aY)=true):=iP hp0;by_cases hl0:x.tx.length=0
  ·have sP:Hid (x.lM s=x):=(Y9.o _ rfl).1 ⟨hp0,hl0⟩;have hz:((x.tx.length:Int)==0)=true:=by simp[hl0]
   clear hp0 hl0 l3;go_wp2_with (first|(refine nN rfl 82 (.tmp 8) rfl nb 0 rfl (aB s.spot) _ HR.o underlying82 rfl bH ?_)|(refine oQ rfl (.tmp 9) (.tmp 10) rfl s.spot aY rfl _ rfl rfl true HD.o ?_));refine l2.mono ?_;rintro e w2 ⟨rfl,hw2⟩;obtain rfl:=hw2.symm;go_wp2_with fail;refine bX (dz rfl _ _ _) rfl ?_;exact⟨rfl,by rw[sP.o];exact wz.o.wr,kR.o⟩
  ·have sP:Hid (x.lM s=x.aZ s.cur s.spot s.top):=(Y9.o _ rfl).2 (fun h=>hl0 h.2);have hz:((x.tx.length:Int)==0)=false:=by
    have:((x.tx.length:Int)≠0):=by omega
    exact beq_false_of_ne this
   rw[←sP.o]at l3;clear hp0 hl0;go_wp2_with (first|(refine nN rfl 82 (.tmp 8) rfl nb 0 rfl (aB s.spot) _ HR.o underlying82 rfl bH ?_)|(refine oQ rfl (.tmp 9) (.tmp 10) rfl s.spot aY rfl _ rfl rfl true HD.o ?_));refine l2.mono ?_;rintro e w2 ⟨rfl,hw2⟩;obtain rfl:=hw2.symm;go_wp2_with (refine nN rfl 82 (.tmp 22) rfl nb 0 rfl (aB s.spot) _ HR.o underlying82 rfl bH ?_);refine l3.mono ?_;rintro e y3 ⟨rfl,h3,k3⟩;have HF:Hid (iK y3 wb L.tb (x.lM s)∧Wk wb w y3):=⟨h3,kR.o.trans k3⟩;clear h3 k3;go_wp2_with fail;go_end0;exact⟨rfl,HF.o.1,HF.o.2⟩
 ·have HD:Hid (decide (s.spot=aY)=false):=jh hp0;have sP:Hid (x.lM s=x.aZ s.cur s.spot s.top):=(Y9.o _ rfl).2 (fun h=>hp0 h.1);rw[←sP.o]at l3;clear hp0 l2;go_wp2_with (first|(refine nN rfl 82 (.tmp 8) rfl nb 0 rfl (aB s.spot) _ HR.o underlying82 rfl bH ?_)|(refine oQ rfl (.tmp 9) (.tmp 10) rfl s.spot aY rfl _ rfl rfl false HD.o ?_)|(refine nN rfl 82 (.tmp 22) rfl nb 0 rfl (aB s.spot) _ HR.o underlying82 rfl bH ?_));refine l3.mono ?_;rintro e y3 ⟨rfl,h3,k3⟩;have HF:Hid (iK y3 wb L.tb (x.lM s)∧Wk wb w y3):=⟨h3,kR.o.trans k3⟩;clear h3 k3;go_wp2_with fail;go_end0;exact⟨rfl,HF.o.1,HF.o.2⟩
theorem Qa{t:List Int}(h:∀i∈t,0≤i∧i<256):∃l:List UInt8,t=l.map (fun c=>(c.toNat:Int)):=by
 induction t with
 |nil=>exact⟨[],rfl⟩
 |cons a t ih=>
  obtain⟨l,rfl⟩:=ih (fun i hi=>h i (List.mem_cons_of_mem _ hi));have ha:=h a (List.mem_cons_self ..);refine⟨UInt8.ofNat a.toNat::l,?_⟩;rw[List.map_cons]
  congr 1
  rw[UInt8.toNat_ofNat_of_lt' (by show a.toNat<256;omega)];omega
def x8 (wb:Nat) (t:List Int) (w:World) (e:Ending) (w':World):Prop:=(∃U:ByteArray,e= .returned (.string U)∧bl U=t)∧Below wb w w'
theorem KM(wb tb:Nat)(p:Value)(q:fO)(w:World)(h:w.heap[wb]? =some (.cells (FY tb p (.slice none 0 0) q).toArray 133 (0,0))):
 Calls prog 74 #[.pointer (some ⟨wb,1,none⟩)] w (x8 wb [] w):=by
 have hUS:∀(W:World) (q:Option Addr),(Builtin.unsafeString_ #[193,3] 9 #[.pointer q,.int .i64 0]).run prog W= .ok (.string .empty) W:=fun W q=>Lib.run_unsafeString_none W _ _ _ q;have c1:w.drew.cell? ⟨wb,2,none⟩=some (.slice none 0 0):=(bG w.drew _ _ _ _ _ h).trans rfl;have hSD:(Builtin.unsafeSliceData_ #[129] 193 #[.slice none 0 0]).run prog w.drew= .ok (.pointer none) w.drew:=rfl;clear h;go_enter func74,ntmps74;go_wp2;go_region
 all_goals (go_wp2;go_ret;exact⟨⟨_,rfl,rfl⟩,Below.drew (dU wb w)⟩)
theorem CO(wb tb g:Nat)(p:Value)(q:fO)(cur:Array Value)(w:World)(hg:w.heap[g]? =some (.cells cur 5 (0,0)))(h:w.heap[wb]? =some (.cells (FY tb p (.slice (some ⟨g,0,none⟩) 0 0) q).toArray 133 (0,0))):
 Calls prog 74 #[.pointer (some ⟨wb,1,none⟩)] w (x8 wb [] w):=by
 have hUS:∀(W:World) (q:Option Addr),(Builtin.unsafeString_ #[193,3] 9 #[.pointer q,.int .i64 0]).run prog W= .ok (.string .empty) W:=fun W q=>Lib.run_unsafeString_none W _ _ _ q;have hlt:=aK h;have hBw:wb≤w.heap.size:=kW hlt;have c1:w.drew.cell? ⟨wb,2,none⟩=some (.slice (some ⟨g,0,none⟩) 0 0):=(bG w.drew _ _ _ _ _ h).trans rfl;have hSD:(Builtin.unsafeSliceData_ #[129] 193 #[.slice (some ⟨g,0,none⟩) 0 0]).run prog w.drew= .ok (.pointer (some ⟨w.drew.heap.size,0,none⟩)) (w.drew.alloc (.view ⟨g,0,none⟩ 5)):=
  Lib.run_unsafeSliceData_zero w.drew _ _ 5 (by kernel_rfl) ⟨g,0,none⟩ 0 (5,cur.size) (by have hg':w.drew.heap[g]? =some (.cells cur 5 (0,0)):=hg;simp[World.shape?,hg'])
 have c2:(w.drew.alloc (.view ⟨g,0,none⟩ 5)).cell? ⟨wb,2,none⟩=some (.slice (some ⟨g,0,none⟩) 0 0):=by have e:(w.drew.alloc (.view ⟨g,0,none⟩ 5)).heap[wb]? =_:=(Lib.alloc_old w.drew _ wb hlt).trans h;exact(bG _ _ _ _ _ _ e).trans rfl
 have c3:(w.alloc (.view ⟨g,0,none⟩ 5)).drew.cell? ⟨wb,2,none⟩=some (.slice (some ⟨g,0,none⟩) 0 0):=c2;have c0:w.cell? ⟨wb,2,none⟩=some (.slice (some ⟨g,0,none⟩) 0 0):=c1;clear h hg hlt;go_enter func74,ntmps74;go_wp2;go_region
 all_goals (go_wp2;go_ret;exact⟨⟨_,rfl,rfl⟩,(Below.drew (dU wb w)).alloc hBw _⟩)
theorem IA(wb tb g cap:Nat)(p:Value)(q:fO)(w:World)(hc0:cap≠0)(h:w.heap[wb]? =some (.cells (FY tb p (.slice (some ⟨g,0,none⟩) 0 cap) q).toArray 133 (0,0))):
 Calls prog 74 #[.pointer (some ⟨wb,1,none⟩)] w (x8 wb [] w):=by
 have hUS:∀(W:World) (q:Option Addr),(Builtin.unsafeString_ #[193,3] 9 #[.pointer q,.int .i64 0]).run prog W= .ok (.string .empty) W:=fun W q=>Lib.run_unsafeString_none W _ _ _ q;have c1:w.drew.cell? ⟨wb,2,none⟩=some (.slice (some ⟨g,0,none⟩) 0 cap):=(bG w.drew _ _ _ _ _ h).trans rfl;have hSD:(Builtin.unsafeSliceData_ #[129] 193 #[.slice (some ⟨g,0,none⟩) 0 cap]).run prog w.drew= .ok (.pointer (some ⟨g,0,none⟩)) w.drew:=
  Lib.run_unsafeSliceData_row _ _ _ _ _ _ hc0
 clear h hc0;go_enter func74,ntmps74;go_wp2;go_region
 all_goals (go_wp2;go_ret;exact⟨⟨_,rfl,rfl⟩,Below.drew (dU wb w)⟩)
theorem KN(wb tb g cap:Nat)(p:Value)(q:fO)(cur:Array Value)(l:List UInt8)(h0:l≠[])(w:World)(hbg:wb+1≤g)(hg:w.heap[g]? =some (.cells cur 5 (0,0)))(hnc:l.length≤cap)(hcm:cap≤maxLen)(hcs:cur.size=cap*1)(hcell:∀j (x:UInt8),l[j]? =some x→w.cell? ((⟨g,0,none⟩:Addr).add j)=some (.int .u8 x.toNat))(h:w.heap[wb]? =some (.cells (FY tb p (.slice (some ⟨g,0,none⟩) l.length cap) q).toArray 133 (0,0))):
 Calls prog 74 #[.pointer (some ⟨wb,1,none⟩)] w (x8 wb (l.map (fun c=>(c.toNat:Int))) w):=by
 have hl0:l.length≠0:=by simpa using h0
 have c1:w.drew.cell? ⟨wb,2,none⟩=some (.slice (some ⟨g,0,none⟩) l.length cap):=(bG w.drew _ _ _ _ _ h).trans rfl;have hSD:(Builtin.unsafeSliceData_ #[129] 193 #[.slice (some ⟨g,0,none⟩) l.length cap]).run prog w.drew= .ok (.pointer (some ⟨g,0,none⟩)) w.drew:=
  Lib.run_unsafeSliceData_row _ _ _ _ _ _ (by omega)
 have hUS:(Builtin.unsafeString_ #[193,3] 9 #[.pointer (some ⟨g,0,none⟩),.int .i64 l.length]).run prog w.drew= .ok (.string ⟨l.toArray⟩) (w.drew.freeze ⟨g,0,none⟩ l.length):=
  Lib.run_unsafeString_row w.drew 193 3 9 5 (by kernel_rfl) (by kernel_rfl) g cur.size (by have hg':w.drew.heap[g]? =some (.cells cur 5 (0,0)):=hg;simp[World.shape?,hg']) l h0 (by omega) (by unfold maxLen at hcm;omega) hcell
 have aeV:wb≤g:=by omega
 have HL:Hid (bl ⟨l.toArray⟩=l.map (fun c=>(c.toNat:Int))):=by show _=_;unfold bl;simp
 clear h hg hcell hnc hcm hcs h0 hl0 hbg;go_enter func74,ntmps74;go_wp2;go_region
 all_goals (go_wp2;go_ret;exact⟨⟨_,rfl,HL.o⟩,Lib.below_freeze (Below.drew (dU wb w)) (p:=⟨g,0,none⟩) aeV _⟩)
theorem KL(wb tb:Nat)(x:WS)(w:World)(h:iK w wb tb x):Calls prog 74 #[.pointer (some ⟨wb,1,none⟩)] w (x8 wb x.tx w):=by
 obtain⟨p,v,h1,_,h3⟩:=h.ex;obtain⟨l,hl⟩:=Qa h.Xx;have h3':=h3;rcases h3.2 with⟨rfl,e⟩|⟨g,cap,cur,rfl,hbg,hg,hnc,hcm,hcs,_⟩
 ·have:x.tx=[]:=zT e;rw[this];exact KM wb tb p x.pen w h1
 ·by_cases h0:l=[]
  ·have hx:x.tx=[]:=by rw[hl,h0];rfl
   rw[hx]at h1 ⊢;by_cases hc0:cap=0
   ·subst hc0;exact CO wb tb g p x.pen cur w hg h1
   ·exact IA wb tb g cap p x.pen w hc0 h1
  ·have hlen:x.tx.length=l.length:=by rw[hl];simp
   rw[hlen]at h1 hnc;rw[hl];refine KN wb tb g cap p x.pen cur l h0 w hbg hg hnc hcm hcs ?_ h1;intro j y hy;have h4:lD w (wb+1) (.slice (some ⟨g,0,none⟩) x.tx.length cap) x.tx:=h3';exact World.ownsRow.cells (g:=g) h4 (by rfl) j (.int .u8 y.toNat) (by rw[hl];simp[hy])
theorem eD.parts{r:List aI}(h:eD r):∀c∈r,c.part=2∨c.Ok:=by
 induction h with
 |nil=>intro c hc;cases hc
 |one c r hp hw hs h ih=>
  intro d hd;rcases kK.1 hd with rfl|hd
  ·exact .inr hs
  ·exact ih d hd
 |two c r hp hw hs h ih=>
  intro d hd;rcases kK.1 hd with rfl|hd
  ·exact .inr hs
  ·rcases kK.1 hd with rfl|hd
   ·exact .inl rfl
   ·exact ih d hd
theorem zN(hI:s.Inv)(n:Nat):(s.az n).length=s.rows:=by
 unfold TS.az;split
 ·exact hI.l0
 ·exact hI.l1
theorem xK(hF:s.Fit)(n:Nat):GoodS s.ah (s.az n):=by
 unfold TS.az;split
 ·exact hF.g0
 ·exact hF.g1
theorem EA(s:TS)(n i k:Nat):s.cellAt n i k=((s.az n).getD i []).getD k aD:=rfl
theorem Bt{α:Type}(l:List α)(k:Nat)(d:α)(h:k<l.length):l.getD k d∈l:=by rw[List.getD_eq_getElem?_getD,eG h];exact zW h
theorem sV.of(hI:s.Inv)(hF:s.Fit):sV s:=by
 refine⟨fun n i k hi hk=>?_,fun n i k hi hk hp=>?_⟩
 ·have g:=(xK hF n).getD (i:=i) (by rw[zN hI];exact hi);rw[EA];exact g.1.parts _ (Bt _ _ _ (by rw[g.2];exact hk))
 ·have g:=(xK hF n).getD (i:=i) (by rw[zN hI];exact hi);rcases Nat.eq_zero_or_pos k with rfl|h
  ·exact absurd hp (g.1.head aD (by decide))
  ·exact h
theorem uM.of(hI:s.Inv)(hF:s.Fit):uM s:=by
 refine⟨sV.of hI hF,fun n _ q hq=>?_,fun n _=>zN hI n,fun n _=>?_⟩
 ·have g:=xK hF n q hq;exact⟨g.2,g.1.parts⟩
 ·unfold TS.gW;split
  ·exact⟨hI.Y4,hI.Y3,hF.v0⟩
  ·exact⟨hI.Y6,hI.Y5,hF.v1⟩
theorem Da.of(hI:s.Inv)(hF:s.Fit):Da s:=⟨⟨⟨hI.row0,hI.jK⟩,⟨hI.jA,hI.jD⟩,⟨hF.f,hF.sc,hF.u,hF.p,hF.w⟩⟩,fun e=>(hF.o e).1⟩
theorem Il(s:TS)(hI:s.Inv)(hO:uM s):(WS.zero.fV s).tx.length≤40020:=by
 have a0:WS.zero.tx.length=0:=rfl;have a1:∀y:WS,(y.screen s.s0 s.v0).tx.length≤y.tx.length+20000:=fun y=>ug y s hI hO 0 (by omega);have a2:∀y:WS,(y.screen s.s1 s.v1).tx.length≤y.tx.length+20000:=fun y=>ug y s hI hO 1 (by omega);have b1:=a1 WS.zero;have b2:=a2 ((WS.zero.screen s.s0 s.v0).seq [63,52,55,104]);have c1:=kZ (WS.zero.screen s.s0 s.v0) [63,52,55,104];have c2:=kZ (((WS.zero.screen s.s0 s.v0).seq [63,52,55,104]).screen s.s1 s.v1) [63,52,55,108];simp only[fE,eP]at c1 c2;unfold WS.fV WS.second;split
 ·omega
 ·split
  ·omega
  ·omega
theorem Sl(x:WS)(s:TS)(hI:s.Inv):(x.tabs s).tx.length≤x.tx.length+300:=by
 unfold WS.tabs;split
 ·omega
 ·have h:=zP s.tabs (x.seq [51,103]) 0;have c1:=kZ x [51,103];simp only[fE,eP]at c1;have:=hI.lt;have:=hI.c2;omega
theorem JD(x:WS)(s:TS):(x.lM s).tx.length≤x.tx.length+80:=by
 unfold WS.lM;split
 ·omega
 ·exact xO _ _ _ _
theorem YN:(prog.info? 133).map (·.size)=some 8:=by kernel_rfl
theorem MQ(L:Lay)(s:TS)(hI:s.Inv)(hF:s.Fit)(w:World)(ht:cO w L s):
 Calls prog 32 #[.pointer (some ⟨L.tb,0,none⟩)] w fun e w'=>(∃U:ByteArray,e= .returned (.string U)∧bl U=Gz s)∧Below w.heap.size w w':=by
 have HT:Hid _:=ht;have HI:Hid _:=hI;have HO:Hid (uM s):=uM.of hI hF;have HC:Hid (Da s):=Da.of hI hF;clear ht hI hF;go_enter func32,ntmps32;go_wp2_with (refine bK _ rfl 133 (.tmp 3) (.tmp 5) rfl w.heap.size [.pointer none,.pointer none,.slice none 0 0,.bool false,.bool false,.bool false,.int .i64 0,.int .i64 0] (FY L.tb (.pointer none) (.slice none 0 0) mO) rfl _ rfl rfl 133 (bV _ _) rfl YN (by intro v hv;simp only[FY,kK,pX,pY]at hv;rcases hv with rfl|rfl|rfl|rfl|rfl|rfl|rfl|rfl<;>rfl) ?_);intro y1 g1 k1 z1;obtain⟨wb,hwb⟩:∃wb,wb=w.heap.size:=⟨_,rfl⟩;rw[←hwb];rw[←hwb]at g1;have B1:Below wb w y1:=by rw[hwb];exact((dU w.heap.size w).alloc (bN _) _).trans (k1.below (by simp) (fun k hk e=>by omega))
 have X1:Wr y1 wb L s WS.zero:=by refine⟨iK.of (p:=.pointer none) (v:=.slice none 0 0) g1 (.inl rfl) ⟨by simp,.inl ⟨rfl,rfl⟩⟩ (fun i hi=>by cases hi),HT.o.kept (P:=fun k=>wb≤k) ⟨B1.os,B1.tape,B1.output,B1.size,fun i _ hn=>B1.block i (by omega)⟩ (fun k hk hn=>by have:=HT.o.pQ hk;omega),fun k hk=>by have:=HT.o.pQ hk;omega⟩
 have wz:Hid _:=X1;have HB1:Hid _:=B1;have HWB:Hid _:=hwb;clear g1 k1 z1 B1 X1 hwb;have n1:=Il s HI.o HO.o;have n2:=Sl (WS.zero.fV s) s HI.o;have n3:=Kn ((WS.zero.fV s).tabs s) s;have n4:=JD (((WS.zero.fV s).tabs s).region s) s;have HN:Hid ((WS.zero.fV s).tx.length≤100000∧((WS.zero.fV s).tabs s).tx.length≤200000∧(((WS.zero.fV s).tabs s).region s).tx.length≤300000∧((((WS.zero.fV s).tabs s).region s).lM s).tx.length≤300000):=⟨by omega,by omega,by omega,by omega⟩;clear n1 n2 n3 n4;have l1:=KA wb L s HI.o HO.o WS.zero y1 wz.o (by show 0≤1000;omega);go_wp2_with fail;refine l1.mono ?_;rintro e y2 ⟨rfl,h2,k2⟩;have xZ:Hid (Wr y2 wb L s (WS.zero.fV s)):=wz.o.step k2 h2;have HB2:Hid (Below wb w y2):=HB1.o.trans k2.b;clear l1 h2 k2 wz HB1;have l2:=Vy wb L s HI.o _ y2 xZ.o HN.o.1;go_wp2_with fail;refine l2.mono ?_;rintro e y3 ⟨rfl,h3,k3⟩;have wD:Hid (Wr y3 wb L s ((WS.zero.fV s).tabs s)):=xZ.o.step k3 h3;have HB3:Hid (Below wb w y3):=HB2.o.trans k3.b;clear l2 h3 k3 xZ HB2;have l3:=NJ wb L s HI.o _ y3 wD.o HN.o.2.1;go_wp2_with fail;refine l3.mono ?_;rintro e y4 ⟨rfl,h4,k4⟩;have FR:Hid (Wr y4 wb L s (((WS.zero.fV s).tabs s).region s)):=wD.o.step k4 h4;have Ja:Hid (Below wb w y4):=HB3.o.trans k4.b;clear l3 h4 k4 wD HB3;have l4:=MX wb L s HI.o HO.o HC.o _ y4 FR.o HN.o.2.2.1;go_wp2_with fail;refine l4.mono ?_;rintro e y5 ⟨rfl,h5,k5⟩;have VS:Hid (Wr y5 wb L s ((((WS.zero.fV s).tabs s).region s).lM s)):=FR.o.step k5 h5;have Jb:Hid (Below wb w y5):=Ja.o.trans k5.b;clear l4 h5 k5 FR Ja;have l5:=Iq wb L s _ y5 VS.o HN.o.2.2.2;go_wp2_with fail;refine l5.mono ?_;rintro e y6 ⟨rfl,h6,k6⟩;have HX6:Hid _:=h6;have SL:Hid (Below wb w y6):=Jb.o.trans k6.b;clear l5 h6 k6 VS Jb;have l6:=KL wb L.tb _ y6 HX6.o;go_wp2_with fail;refine l6.mono ?_;rintro e y7 ⟨⟨U,rfl,hU⟩,b7⟩;have HU:Hid _:=hU;have VF:Hid (Below w.heap.size w y7):=by have:=SL.o.trans b7;rw[HWB.o]at this;exact this
 clear l6 hU b7 HX6 SL;go_wp2_with fail;go_ret;exact⟨⟨U,rfl,HU.o⟩,VF.o⟩
theorem Qp(fb:Nat)(L:Lay)(x:akA)(hI:x.t.Inv)(hF:x.t.Fit)(w:World)(h:Cm w fb L x):
 Calls prog 14 #[.pointer (some ⟨fb,0,none⟩)] w fun e w'=>(∃U:ByteArray,e= .returned (.string U)∧bl U=Gz x.t)∧Below w.heap.size w w':=by
 have hpt:=h.pt;have l1:=MQ L x.t hI hF w h.te;clear h hI hF;go_enter func14,ntmps14;go_wp2_with fail;refine l1.mono ?_;rintro e y7 ⟨⟨U,rfl,hU⟩,b7⟩;have HU:Hid _:=hU;have VF:Hid _:=b7;clear l1 hU b7;go_wp2_with fail;go_ret;exact⟨⟨U,rfl,HU.o⟩,VF.o⟩
end Go.Proofs.YtheibfffilomcaaGreatDoor
