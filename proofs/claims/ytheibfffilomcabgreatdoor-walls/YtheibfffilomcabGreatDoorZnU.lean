import Derived.Test.YtheibfffilomcabGreatDoorEvnU
import Derived.Test.YtheibfffilomcabGreatDoorZjU
import Derived.Test.YtheibfffilomcabGreatDoorZdU
import Derived.Lib.UnsafeStr
import Derived.BigRegion
import Derived.Test.YtheibfffilomcabGreatDoorWdU
set_option linter.all false
set_option maxRecDepth 100000
set_option maxHeartbeats 2000000
namespace Go.Proofs.YtheibfffilomcabGreatDoor
open Go.RowKit Go.Proofs.Tryz
variable {s:TS}
theorem I9:∀(T:List Bool) (x:WS) (i k:Nat) (b:Bool),T[k]? =some b→WS.m_ x i (T.take (k+1))=(WS.m_ x i (T.take k)).Dn (i+k) b:=by
 intro T;induction T with
 |nil=>intro x i k r h;simp at h
 |cons q T ih=>
  intro x i k r h;cases k with
  |zero=>simp at h;subst h;rfl
  |succ k=>have:=ih (x.Dn i q) (i+1) k r (by simpa using h);show WS.m_ (x.Dn i q) (i+1) (T.take (k+1))=_;rw[this,show i+1+k=i+(k+1) by omega];rfl
theorem PZ(x:WS)(k:Nat)(b:Bool):(x.Dn k b).tx.length≤x.tx.length+7:=by
 unfold WS.Dn;split
 ·have h1:=kS ((k:Int)+1);rw[bN,iJ,lQ];simp only[fB,dH];omega
 ·omega
theorem BM:∀(T:List Bool) (x:WS) (i:Nat),(WS.m_ x i T).tx.length≤x.tx.length+7*T.length:=by
 intro T;induction T with
 |nil=>intro x i;exact Nat.le_add_right _ _
 |cons b T ih=>intro x i;have h1:=ih (x.Dn i b) (i+1);have h2:=PZ x i b;show(WS.m_ (x.Dn i b) (i+1) T).tx.length≤_;rw[fB];omega
theorem Al(wb:Nat)(L:Lay)(s:TS)(hI:s.Inv)(x:WS)(w:World)(h:Wr w wb L s x):
 Calls prog 91 #[.pointer (some ⟨wb,0,none⟩),.int .i64 (s.aa:Int)] w fun e w'=>e= .returned (.bool (WS.mZ 0 s.tabs))∧w'=w:=by
 have c0:=h.c0;have hc2:=hI.c2;have HX0:Hid _:=h;have HI:Hid _:=hI;have hlt:=hI.lt;have Qz:Hid _:=hlt;clear h hI hlt;go_enter func91,ntmps91;go_wp2_with fail;go_loopw [7] (fun j wr=>∃k:Nat,k≤s.aa∧j= .int .i64 k∧Hid (wr=w)∧Hid (WS.mZ 0 s.tabs=WS.mZ k (s.tabs.drop k))) (fun j _=>s.aa-(intOf j).toNat)
 case atStart=>exact⟨0,jy _,rfl,rfl,rfl⟩
 case round=>
  obtain⟨k,hk,rfl,HW,HE⟩:=hrel;obtain rfl:=HW.o;by_cases hkc:k<s.aa
  ·have UT:(k:Int)<(s.aa:Int):=by omega
   have vk:IntKind.i64.wrap ((k:Int)+1)=(k:Int)+1:=bV _ (by omega);have l2:=F9 L s k hkc wr HX0.o.te HI.o;have l3:=Bi k (by omega) wr;have hdr:s.tabs.drop k=s.tabs.getD k false::s.tabs.drop (k+1):=by
    have:k<s.tabs.length:=by rw[Qz.o];exact hkc
    rw[Jj this];simp[List.getD,gK this]
   have HD:Hid (WS.mZ 0 s.tabs=(decide (s.tabs.getD k false=WS.uD k)&&WS.mZ (k+1) (s.tabs.drop (k+1)))):=by show _=_;rw[HE.o,hdr];rfl
   rw[show decide (0<k∧k % 8=0)=WS.uD k from rfl]at l3;clear hdr;generalize s.tabs.getD k false=b at*;generalize WS.uD k=f at*;cases b with
   |false=>
    cases f with
    |false=>
     have HD2:Hid (WS.mZ 0 s.tabs=WS.mZ (k+1) (s.tabs.drop (k+1))):=by show _=_;rw[HD.o];rfl
     go_wp2_with fail;refine l2.mono ?_;rintro e w2 ⟨rfl,hw2⟩;obtain rfl:=hw2.symm;go_wp2_with fail;refine l3.mono ?_;rintro e w3 ⟨rfl,hw3⟩;obtain rfl:=hw3.symm;go_wp2_with fail;go_roundw
     case rel=>exact⟨k+1,by omega,by go_num,trivial,HD2⟩
     case measure=>simp[intOf];omega
    |true=>
     have HFF:Hid (WS.mZ 0 s.tabs=false):=by show _=_;rw[HD.o];rfl
     go_wp2_with fail;refine l2.mono ?_;rintro e w2 ⟨rfl,hw2⟩;obtain rfl:=hw2.symm;go_wp2_with fail;refine l3.mono ?_;rintro e w3 ⟨rfl,hw3⟩;obtain rfl:=hw3.symm;go_wp2_with fail;go_ret;exact⟨by rw[HFF.o];rfl,rfl⟩
   |true=>
    cases f with
    |false=>
     have HFF:Hid (WS.mZ 0 s.tabs=false):=by show _=_;rw[HD.o];rfl
     go_wp2_with fail;refine l2.mono ?_;rintro e w2 ⟨rfl,hw2⟩;obtain rfl:=hw2.symm;go_wp2_with fail;refine l3.mono ?_;rintro e w3 ⟨rfl,hw3⟩;obtain rfl:=hw3.symm;go_wp2_with fail;go_ret;exact⟨by rw[HFF.o];rfl,rfl⟩
    |true=>
     have HD2:Hid (WS.mZ 0 s.tabs=WS.mZ (k+1) (s.tabs.drop (k+1))):=by show _=_;rw[HD.o];rfl
     go_wp2_with fail;refine l2.mono ?_;rintro e w2 ⟨rfl,hw2⟩;obtain rfl:=hw2.symm;go_wp2_with fail;refine l3.mono ?_;rintro e w3 ⟨rfl,hw3⟩;obtain rfl:=hw3.symm;go_wp2_with fail;go_roundw
     case rel=>exact⟨k+1,by omega,by go_num,trivial,HD2⟩
     case measure=>simp[intOf];omega
  ·have UT:¬(k:Int)<(s.aa:Int):=by omega
   have R5:Hid (WS.mZ 0 s.tabs=true):=by show _=_;rw[HE.o,yj (by rw[Qz.o];omega)];rfl
   go_wp2_with fail;go_ret;exact⟨by rw[R5.o];rfl,rfl⟩
theorem RP(wb:Nat)(L:Lay)(s:TS)(hI:s.Inv)(x:WS)(w:World)(h:Wr w wb L s x)(hx:x.tx.length≤100000):
 Calls prog 50 #[.pointer (some ⟨wb,0,none⟩)] w fun e w'=>e= .returned (.tuple #[])∧eB w' wb L.tb (x.tabs s)∧Wk wb w w':=by
 have c0:=h.c0;have hc2:=hI.c2;have l1:=o5 L s w h.te hI;have l2:=Al wb L s hI x w h;have HX0:Hid _:=h;have HI:Hid _:=hI;have Qz:Hid (s.tabs.length=s.aa):=hI.lt;clear h hI;cases hfr:WS.mZ 0 s.tabs with
 |true=>
  have pz:Hid (x.tabs s=x):=by show _=_;unfold WS.tabs;rw[aS hfr]
  rw[hfr]at l2;go_enter func50,ntmps50;go_wp2_with (first|(go_at_call 90;refine l1.mono ?_;rintro e w1 ⟨rfl,hw1⟩;have hw2:=hw1.symm;subst hw2)|(go_at_call 91;refine l2.mono ?_;rintro e w1 ⟨rfl,hw1⟩;have hw2:=hw1.symm;subst hw2));refine gL (lF rfl _ _ _) rfl ?_;exact⟨rfl,by rw[pz.o];exact HX0.o.wr,Wk.refl _ _⟩
 |false=>
  have pz:Hid (x.tabs s=WS.m_ (x.seq [51,103]) 0 s.tabs):=by show _=_;unfold WS.tabs;rw[hfr,aG (by decide)]
  rw[hfr]at l2;have l3:=dM wb L.tb x {data:=#[51,103]} w HX0.o.wr (by omega) (by decide);rw[show bl ({data:=#[51,103]}:ByteArray)=[51,103] by rfl]at l3;have n3:=iJ x [51,103];simp only[fB,dH]at n3;go_enter func50,ntmps50;go_wp2_with (first|(go_at_call 90;refine l1.mono ?_;rintro e w1 ⟨rfl,hw1⟩;have hw2:=hw1.symm;subst hw2)|(go_at_call 91;refine l2.mono ?_;rintro e w1 ⟨rfl,hw1⟩;have hw2:=hw1.symm;subst hw2));refine l3.mono ?_;rintro e y3 ⟨rfl,h3,k3⟩;have sj:Hid (Wr y3 wb L s (x.seq [51,103])):=HX0.o.step k3 h3;have Gt:Hid _:=k3;obtain⟨xs,hxs⟩:∃xs,xs=x.seq [51,103]:=⟨_,rfl⟩;rw[←hxs]at sj pz n3;clear h3 k3 l3 l1 l2 c0 hfr HX0 hxs;go_wp2_with fail;go_loopw [19] (fun j wr=>∃k:Nat,k≤s.aa∧j= .int .i64 k∧Hid (Wr wr wb L s (WS.m_ xs 0 (s.tabs.take k)))∧Hid (Wk wb w wr)) (fun j _=>s.aa-(intOf j).toNat)
  case atStart=>exact⟨0,jy _,rfl,sj,Gt⟩
  case round=>
   clear sj Gt;obtain⟨k,hk,rfl,HX,HK⟩:=hrel;have hlen:(WS.m_ xs 0 (s.tabs.take k)).tx.length≤200000:=by
    have h1:=BM (s.tabs.take k) xs 0;have h2:(s.tabs.take k).length≤40:=by rw[jJ,Qz.o];omega
    omega
   by_cases hkc:k<s.aa
   ·have UT:(k:Int)<(s.aa:Int):=by omega
    have vk:IntKind.i64.wrap ((k:Int)+1)=(k:Int)+1:=bV _ (by omega);have c0:=HX.o.c0;have l4:=F9 L s k hkc wr HX.o.te HI.o;have V9:s.tabs[k]? =some (s.tabs.getD k false):=by
     have:k<s.tabs.length:=by rw[Qz.o];exact hkc
     simp[List.getD,gK this]
    have HE:Hid (WS.m_ xs 0 (s.tabs.take (k+1))=(WS.m_ xs 0 (s.tabs.take k)).Dn k (s.tabs.getD k false)):=by have:=I9 s.tabs xs 0 k _ V9;rw[lG]at this;exact this
    clear V9;generalize s.tabs.getD k false=b at*;obtain⟨xk,hxk⟩:∃xk,xk=WS.m_ xs 0 (s.tabs.take k):=⟨_,rfl⟩;rw[←hxk]at HX HE hlen;clear hxk;cases b with
    |false=>
     go_wp2_with fail;refine l4.mono ?_;rintro e w2 ⟨rfl,hw2⟩;obtain rfl:=hw2.symm;go_wp2_with fail;go_roundw
     case rel=>exact⟨k+1,by omega,by go_num,by rw[HE.o];exact HX,HK⟩
     case measure=>simp[intOf];omega
    |true=>
     have l5:=qQ (k+1) (by omega) wr;rw[show(((k+1:Nat)):Int)=(k:Int)+1 by omega]at l5;have zd:=j6 ((k:Int)+1);have l6:=dM wb L.tb xk (pJ ((k:Int)+1)++{data:=#[71]}) wr HX.o.wr (by omega) (by rw[yg];show(pJ ((k:Int)+1)).size+1≤_;omega);rw[iy,rO (by omega),show bl ({data:=#[71]}:ByteArray)=[71] by rfl]at l6;have n6:=iJ xk (lg ((k:Int)+1)++[71]);have nd:=kS ((k:Int)+1);rw[lQ]at n6;simp only[fB,dH]at n6;have HE2:Hid (WS.m_ xs 0 (s.tabs.take (k+1))=(xk.seq (lg ((k:Int)+1)++[71])).put [27,72]):=HE.o.trans rfl;generalize pJ ((k:Int)+1)=D at*;go_wp2_with fail;refine l4.mono ?_;rintro e w2 ⟨rfl,hw2⟩;obtain rfl:=hw2.symm;go_wp2_with fail;refine l5.mono ?_;rintro e w2 ⟨rfl,hw2⟩;obtain rfl:=hw2.symm;go_wp2_with fail;refine l6.mono ?_;rintro e y7 ⟨rfl,h7,k7⟩;have HX7:Hid (Wr y7 wb L s (xk.seq (lg ((k:Int)+1)++[71]))):=HX.o.step k7 h7;have HK7:Hid (Wk wb w y7):=HK.o.trans k7;have l8:=av wb L.tb (xk.seq (lg ((k:Int)+1)++[71])) {data:=#[27,72]} y7 h7 (by omega) (by decide);rw[dG _ (show bl ({data:=#[27,72]}:ByteArray)=[27,72] by rfl), ←HE2.o]at l8;clear h7 k7 l6 l5 l4 c0 HX HK;go_wp2_with fail;refine l8.mono ?_;rintro e y8 ⟨⟨v8,rfl⟩,h8,k8⟩;have HX8:Hid (Wr y8 wb L s (WS.m_ xs 0 (s.tabs.take (k+1)))):=HX7.o.step k8 h8;have HK8:Hid (Wk wb w y8):=HK7.o.trans k8;clear h8 k8 l8;go_wp2_with fail;go_roundw
     case rel=>exact⟨k+1,by omega,by go_num,HX8,HK8⟩
     case measure=>simp[intOf];omega
   ·have UT:¬(k:Int)<(s.aa:Int):=by omega
    have hke:s.tabs.take k=s.tabs:=sG (by rw[Qz.o];omega);rw[hke]at HX;have HF:Hid (eB wr wb L.tb (x.tabs s)):=by rw[pz.o];exact HX.o.wr
    clear hke;go_wp2_with fail;go_end0;exact⟨rfl,HF.o,HK.o⟩
theorem Ii(x:WS)(s:TS):(x.region s).tx.length≤x.tx.length+8:=by
 unfold WS.region;split
 ·have h1:=kS (s.top+1);have h2:=kS (s.bottom+1);rw[iJ,lQ];unfold zh;simp only[lQ,fB,dH];omega
 ·omega
theorem mV{y:World}{nb:Nat}(h:y.heap[nb]? =some (.cells (M0 s).toArray 127 (0,0))):
 y.cell? ⟨nb,12,none⟩=some (.int .i64 s.top)∧y.cell? ⟨nb,13,none⟩=some (.int .i64 s.bottom)∧y.cell? ⟨nb,14,none⟩=some (.bool s.wrap)∧y.cell? ⟨nb,15,none⟩=some (.bool s.insert)∧y.cell? ⟨nb,16,none⟩=some (.int .i64 s.shown):=
 ⟨(dJ _ _ _ _ _ _ h).trans rfl,(dJ _ _ _ _ _ _ h).trans rfl,(dJ _ _ _ _ _ _ h).trans rfl,(dJ _ _ _ _ _ _ h).trans rfl,(dJ _ _ _ _ _ _ h).trans rfl⟩
theorem LQ(wb:Nat)(L:Lay)(s:TS)(hI:s.Inv)(x:WS)(w:World)(h:Wr w wb L s x)(hx:x.tx.length≤200000):
 Calls prog 51 #[.pointer (some ⟨wb,0,none⟩)] w fun e w'=>e= .returned (.tuple #[])∧eB w' wb L.tb (x.region s)∧Wk wb w w':=by
 have hr1:=hI.r1;have hr2:=hI.r2;obtain⟨tp,htp⟩:∃tp:Nat,s.top=(tp:Int):=⟨s.top.toNat,by have:=hI.gN;omega⟩;obtain⟨bt,hbt⟩:∃bt:Nat,s.bottom=(bt:Int):=⟨s.bottom.toNat,by have:=hI.gN;have:=hI.tb;omega⟩;have hbl:bt<s.rows:=by have:=hI.bot;omega
 have htl:tp≤bt:=by have:=hI.tb;omega
 have HI:Hid _:=hI;have HT:Hid _:=htp;have HB:Hid _:=hbt;clear hI htp hbt;have c0:=h.c0;have hlt:=h.lt;have l1:=rX L s w h.te;have HX0:Hid _:=h;clear h;go_enter func51,ntmps51;go_wp2_with fail;refine l1.mono ?_;rintro e x1 ⟨rfl,q1⟩;go_wp2_with (refine bY _ rfl 127 (.tmp 2) (.tmp 9) rfl x1.heap.size [.int .i64 0,.int .i64 0,.bool false,.bool false,.bool false,.bool false,.int .i64 0,.int .i64 0,.int .i64 0,.int .i64 0,.int .i64 0,.bool false,.int .i64 0,.int .i64 0,.bool false,.bool false,.int .i64 0] (M0 s) rfl _ rfl rfl 127 (bJ _ _) rfl vN (x_ s) ?_);intro y1 g1 k1 z1;have hq1:w.heap.size≤x1.heap.size:=q1.size;have B1:Below w.heap.size w y1:=(q1.nI.alloc q1.size (.cells [.int .i64 0,.int .i64 0,.bool false,.bool false,.bool false,.bool false,.int .i64 0,.int .i64 0,.int .i64 0,.int .i64 0,.int .i64 0,.bool false,.int .i64 0,.int .i64 0,.bool false,.bool false,.int .i64 0].toArray 127)).trans (k1.below (by simp;omega) (fun k hk e=>by omega));have si:Hid (Wr y1 wb L s x):=HX0.o.keep B1;have Dz:Hid (Wk wb w y1):=Wk.of_below B1 (iH hlt);obtain⟨nb,hnb⟩:∃nb,nb=x1.heap.size:=⟨_,rfl⟩;rw[←hnb];rw[←hnb]at g1;have hwn:wb<nb:=by omega
 have Gz:Hid _:=g1;clear g1 k1 z1 q1 B1 HX0 c0 l1 hnb;have c1:=si.o.c0;have cT:=(mV Gz.o).1;have cB:=(mV Gz.o).2.1;rw[HT.o]at cT;rw[HB.o]at cB;have l2:=o5 L s y1 si.o.te HI.o;have l3:=EX tp bt (by omega) (by omega) y1;have zp:=zl (tp:Int) (bt:Int);have l4:=dM wb L.tb x (oP (tp:Int) (bt:Int)++{data:=#[114]}) y1 si.o.wr (by omega) (by rw[yg];show(oP (tp:Int) (bt:Int)).size+1≤_;omega);rw[iy,EW (by omega) (by omega),show bl ({data:=#[114]}:ByteArray)=[114] by kernel_rfl]at l4;have v1:IntKind.i64.wrap ((s.rows:Int)-1)=(s.rows:Int)-1:=bV _ (by omega);generalize oP (tp:Int) (bt:Int)=D at*;by_cases ht:tp=0
 ·have t0:((tp:Int) != 0)=false:=by simp;omega
  by_cases hb:bt=s.rows-1
  ·have b0:((bt:Int) != (s.rows:Int)-1)=false:=by simp;omega
   have pz:Hid (x.region s=x):=by show _=_;unfold WS.region;rw[HT.o,HB.o,aG (by omega)]
   clear ht hb;go_wp2_with fail;refine l2.mono ?_;rintro e w2 ⟨rfl,hw2⟩;obtain rfl:=hw2.symm;go_wp2_with fail;go_end0;exact⟨rfl,by rw[pz.o];exact si.o.wr,Dz.o⟩
  ·have b0:((bt:Int) != (s.rows:Int)-1)=true:=by simp;omega
   have pz:Hid (x.region s=x.seq (zh (tp:Int) (bt:Int)++[114])):=by show _=_;unfold WS.region;rw[HT.o,HB.o,aS (by omega)]
   clear ht hb;go_wp2_with fail;refine l2.mono ?_;rintro e w2 ⟨rfl,hw2⟩;obtain rfl:=hw2.symm;go_wp2_with fail;refine l3.mono ?_;rintro e w3 ⟨rfl,hw3⟩;obtain rfl:=hw3.symm;go_wp2_with fail;refine l4.mono ?_;rintro e y5 ⟨rfl,h5,k5⟩;have HF:Hid (eB y5 wb L.tb (x.region s)∧Wk wb w y5):=⟨by rw[pz.o];exact h5,Dz.o.trans k5⟩;clear h5 k5;go_wp2_with fail;go_end0;exact⟨rfl,HF.o.1,HF.o.2⟩
 ·have t0:((tp:Int) != 0)=true:=by simp;omega
  have pz:Hid (x.region s=x.seq (zh (tp:Int) (bt:Int)++[114])):=by show _=_;unfold WS.region;rw[HT.o,HB.o,aS (by omega)]
  clear ht;go_wp2_with fail;refine l2.mono ?_;rintro e w2 ⟨rfl,hw2⟩;obtain rfl:=hw2.symm;go_wp2_with fail;refine l3.mono ?_;rintro e w3 ⟨rfl,hw3⟩;obtain rfl:=hw3.symm;go_wp2_with fail;refine l4.mono ?_;rintro e y5 ⟨rfl,h5,k5⟩;have HF:Hid (eB y5 wb L.tb (x.region s)∧Wk wb w y5):=⟨by rw[pz.o];exact h5,Dz.o.trans k5⟩;clear h5 k5;go_wp2_with fail;go_end0;exact⟨rfl,HF.o.1,HF.o.2⟩
theorem Rj(wb tb:Nat)(x:WS)(w:World)(h:eB w wb tb x):Calls prog 96 #[.pointer (some ⟨wb,1,none⟩)] w fun e w'=>e= .returned (.int .i64 (x.tx.length:Int))∧w'=w:=by
 obtain⟨p,v,h1,h2,h3⟩:=h.ex;obtain⟨ao,nn,cc,rfl,hn⟩:∃ao nn cc,v= .slice ao nn cc∧nn=x.tx.length:=by
  rcases h3.2 with⟨rfl,e⟩|⟨g,cap,cur,rfl,_⟩
  ·exact⟨_,_,_,rfl,e.symm⟩
  ·exact⟨_,_,_,rfl,rfl⟩
 have c2:w.cell? ⟨wb,2,none⟩=some (.slice ao nn cc):=(dJ _ _ _ _ _ _ h1).trans rfl;have HN:Hid _:=hn;clear h h1 h2 h3 hn;go_enter func96,ntmps96;go_wp2_with fail;go_ret;exact⟨by rw[←HN.o];rfl,rfl⟩
theorem FJ(wb:Nat)(L:Lay)(s:TS)(x:WS)(w:World)(h:Wr w wb L s x)(hx:x.tx.length≤300000):
 Calls prog 53 #[.pointer (some ⟨wb,0,none⟩)] w fun e w'=>e= .returned (.tuple #[])∧eB w' wb L.tb ((x.xR s).xS s)∧Wk wb w w':=by
 have c0:=h.c0;have hlt:=h.lt;have l1:=rX L s w h.te;have HX0:Hid _:=h;clear h;go_enter func53,ntmps53;go_wp2_with fail;refine l1.mono ?_;rintro e x1 ⟨rfl,q1⟩;go_wp2_with (refine bY _ rfl 127 (.tmp 2) (.tmp 7) rfl x1.heap.size [.int .i64 0,.int .i64 0,.bool false,.bool false,.bool false,.bool false,.int .i64 0,.int .i64 0,.int .i64 0,.int .i64 0,.int .i64 0,.bool false,.int .i64 0,.int .i64 0,.bool false,.bool false,.int .i64 0] (M0 s) rfl _ rfl rfl 127 (bJ _ _) rfl vN (x_ s) ?_);intro y1 g1 k1 z1;have hq1:w.heap.size≤x1.heap.size:=q1.size;have B1:Below w.heap.size w y1:=(q1.nI.alloc q1.size (.cells [.int .i64 0,.int .i64 0,.bool false,.bool false,.bool false,.bool false,.int .i64 0,.int .i64 0,.int .i64 0,.int .i64 0,.int .i64 0,.bool false,.int .i64 0,.int .i64 0,.bool false,.bool false,.int .i64 0].toArray 127)).trans (k1.below (by simp;omega) (fun k hk e=>by omega));have si:Hid (Wr y1 wb L s x):=HX0.o.keep B1;have Dz:Hid (Wk wb w y1):=Wk.of_below B1 (iH hlt);obtain⟨nb,hnb⟩:∃nb,nb=x1.heap.size:=⟨_,rfl⟩;rw[←hnb];rw[←hnb]at g1;have hwn:wb<nb:=by omega
 have Gz:Hid _:=g1;clear g1 k1 z1 q1 B1 HX0 c0 l1 hnb;have cI:=(mV Gz.o).2.2.2.1;have cW:=(mV Gz.o).2.2.1;cases hbi:s.insert with
 |false=>
  rw[hbi]at cI;cases hbw:s.wrap with
  |true=>
   rw[hbw]at cW;have pz:Hid ((x.xR s).xS s=x):=by show _=_;unfold WS.xS WS.xR;rw[hbi,hbw];rfl
   clear hbi hbw;go_wp2_with fail;go_end0;exact⟨rfl,by rw[pz.o];exact si.o.wr,Dz.o⟩
  |false=>
   rw[hbw]at cW;have pz:Hid ((x.xR s).xS s=x.seq [63,55,108]):=by show _=_;unfold WS.xS WS.xR;rw[hbi,hbw];rfl
   have l3:=dM wb L.tb x {data:=#[63,55,108]} y1 si.o.wr (by omega) (by decide);rw[show bl ({data:=#[63,55,108]}:ByteArray)=[63,55,108] by rfl, ←pz.o]at l3;clear hbi hbw;go_wp2_with fail;refine l3.mono ?_;rintro e y3 ⟨rfl,h3,k3⟩;have HF:Hid (eB y3 wb L.tb ((x.xR s).xS s)∧Wk wb w y3):=⟨h3,Dz.o.trans k3⟩;clear h3 k3;go_wp2_with fail;go_end0;exact⟨rfl,HF.o.1,HF.o.2⟩
 |true=>
  rw[hbi]at cI;have l2:=dM wb L.tb x {data:=#[52,104]} y1 si.o.wr (by omega) (by decide);rw[show bl ({data:=#[52,104]}:ByteArray)=[52,104] by rfl]at l2;have n2:=iJ x [52,104];simp only[fB,dH]at n2;have HBI:Hid _:=hbi;clear hbi cW;go_wp2_with fail;refine l2.mono ?_;rintro e y2 ⟨rfl,h2,k2⟩;have HG2:Hid (y2.heap[nb]? =some (.cells (M0 s).toArray 127 (0,0))):=k2.at Gz.o (by omega) (by decide);have Gs:Hid (Wk wb w y2):=Dz.o.trans k2;have cW:=(mV HG2.o).2.2.1;have HW2:Hid _:=h2;have l3:=dM wb L.tb (x.seq [52,104]) {data:=#[63,55,108]} y2 h2 (by omega) (by decide);rw[show bl ({data:=#[63,55,108]}:ByteArray)=[63,55,108] by rfl]at l3;clear h2 k2 l2 cI;cases hbw:s.wrap with
  |true=>
   rw[hbw]at cW;have pz:Hid ((x.xR s).xS s=x.seq [52,104]):=by show _=_;unfold WS.xS WS.xR;rw[HBI.o,hbw];rfl
   clear hbw;go_wp2_with fail;go_end0;exact⟨rfl,by rw[pz.o];exact HW2.o,Gs.o⟩
  |false=>
   rw[hbw]at cW;have pz:Hid ((x.xR s).xS s=(x.seq [52,104]).seq [63,55,108]):=by show _=_;unfold WS.xS WS.xR;rw[HBI.o,hbw];rfl
   rw[←pz.o]at l3;clear hbw;go_wp2_with fail;refine l3.mono ?_;rintro e y3 ⟨rfl,h3,k3⟩;have HF:Hid (eB y3 wb L.tb ((x.xR s).xS s)∧Wk wb w y3):=⟨h3,Gs.o.trans k3⟩;clear h3 k3;go_wp2_with fail;go_end0;exact⟨rfl,HF.o.1,HF.o.2⟩
structure DU (s:TS):Prop where
 v:GJ s s.spot
 o:s.origin=true→s.top≤s.row
theorem KT(wb:Nat)(L:Lay)(s:TS)(hI:s.Inv)(hO:sP s)(hC:DU s)(x:WS)(w:World)(h:Wr w wb L s x)(hx:x.tx.length≤300000):
 Calls prog 52 #[.pointer (some ⟨wb,0,none⟩)] w fun e w'=>e= .returned (.tuple #[])∧eB w' wb L.tb (x.jq s)∧Wk wb w w':=by
 have HI:Hid _:=hI;have HO:Hid _:=hO;have HC:Hid _:=hC;clear hI hO hC;have c0:=h.c0;have hlt:=h.lt;have l1:=rX L s w h.te;have HX0:Hid _:=h;clear h;go_enter func52,ntmps52;go_wp2_with fail;refine l1.mono ?_;rintro e x1 ⟨rfl,q1⟩;go_wp2_with (refine bY _ rfl 127 (.tmp 2) (.tmp 7) rfl x1.heap.size [.int .i64 0,.int .i64 0,.bool false,.bool false,.bool false,.bool false,.int .i64 0,.int .i64 0,.int .i64 0,.int .i64 0,.int .i64 0,.bool false,.int .i64 0,.int .i64 0,.bool false,.bool false,.int .i64 0] (M0 s) rfl _ rfl rfl 127 (bJ _ _) rfl vN (x_ s) ?_);intro y1 g1 k1 z1;have hq1:w.heap.size≤x1.heap.size:=q1.size;have B1:Below w.heap.size w y1:=(q1.nI.alloc q1.size (.cells [.int .i64 0,.int .i64 0,.bool false,.bool false,.bool false,.bool false,.int .i64 0,.int .i64 0,.int .i64 0,.int .i64 0,.int .i64 0,.bool false,.int .i64 0,.int .i64 0,.bool false,.bool false,.int .i64 0].toArray 127)).trans (k1.below (by simp;omega) (fun k hk e=>by omega));have si:Hid (Wr y1 wb L s x):=HX0.o.keep B1;have Dz:Hid (Wk wb w y1):=Wk.of_below B1 (iH hlt);obtain⟨nb,hnb⟩:∃nb,nb=x1.heap.size:=⟨_,rfl⟩;rw[←hnb];rw[←hnb]at g1;have hwn:wb<nb:=by omega
 have Gz:Hid _:=g1;clear g1 k1 z1 q1 B1 HX0 c0 l1 hnb;have HR:Hid (y1.rangeAt nb 0 (aN s.spot)):=jO Gz.o 0 _ rfl;have cS:=(mV Gz.o).2.2.2.2;have cT:=(mV Gz.o).1;have l2:=Rj wb L.tb x y1 si.o.wr;obtain⟨⟨pr0,pr1⟩,⟨pc0,pc1⟩,hfit⟩:=HC.o.v;have hr2:=HI.o.r2;have hto:=HC.o.o;have ht0:=HI.o.gN;have HFI:Hid _:=hfit;obtain⟨n,hn,hsn,Y2⟩:∃n:Nat,n<2∧s.shown=(n:Int)∧s.aj n=s.cur:=by
  rcases HI.o.sh with h|h
  ·exact⟨0,by omega,h,by unfold TS.cur TS.aj;rw[aS h];rfl⟩
  ·exact⟨1,by omega,h,(aG (by omega:¬s.shown=0):(if s.shown=0 then s.s0 else s.s1)=s.s1).symm⟩
 rw[hsn]at cS;have hsr:s.spot.row=s.row:=rfl;have hso:s.spot.origin=s.origin:=rfl;obtain⟨r,hr,acp⟩:∃r:Nat,(if s.spot.origin then s.spot.row-s.top else s.spot.row)=(r:Int)∧r<90:=by
  rw[hso];cases ho:s.origin with
  |true=>have:=hto ho;exact⟨(s.spot.row-s.top).toNat,by rw[aS rfl];omega,by omega⟩
  |false=>exact⟨s.spot.row.toNat,by rw[aG (by decide)];omega,by omega⟩
 have l3:=BP wb L s HI.o HO.o.c n s.spot.row.toNat s.spot.col.toNat r s.top hn (by omega) (by omega) acp s.spot (by omega) (by omega) hfit.p hfit.f hfit.sc hfit.u hr x y1 si.o (by omega);rw[Y2]at l3;have VZ:Hid (∀c:Prop,c=(s.spot=je∧x.tx.length=0)→(c→x.jq s=x)∧(¬c→x.jq s=x.aP s.cur s.spot s.top)):=by rintro c rfl;exact⟨fun h=>by unfold WS.jq;rw[aS h],fun h=>by unfold WS.jq;rw[aG h]⟩
 clear pr0 pr1 pc0 pc1 hfit hto ht0 hsn Y2 hsr hso hr hn;by_cases hp0:s.spot=je
 ·have HD:Hid (decide (s.spot=je)=true):=mE hp0;by_cases hl0:x.tx.length=0
  ·have pz:Hid (x.jq s=x):=(VZ.o _ rfl).1 ⟨hp0,hl0⟩;have hz:((x.tx.length:Int)==0)=true:=by simp[hl0]
   clear hp0 hl0 l3;go_wp2_with (first|(refine qD rfl 125 (.tmp 8) rfl nb 0 rfl (aN s.spot) _ HR.o underlying125 rfl bL ?_)|(refine kD rfl (.tmp 9) (.tmp 10) rfl s.spot je rfl _ rfl rfl true HD.o ?_));refine l2.mono ?_;rintro e w2 ⟨rfl,hw2⟩;obtain rfl:=hw2.symm;go_wp2_with fail;refine gL (lF rfl _ _ _) rfl ?_;exact⟨rfl,by rw[pz.o];exact si.o.wr,Dz.o⟩
  ·have pz:Hid (x.jq s=x.aP s.cur s.spot s.top):=(VZ.o _ rfl).2 (fun h=>hl0 h.2);have hz:((x.tx.length:Int)==0)=false:=by
    have:((x.tx.length:Int)≠0):=by omega
    exact beq_false_of_ne this
   rw[←pz.o]at l3;clear hp0 hl0;go_wp2_with (first|(refine qD rfl 125 (.tmp 8) rfl nb 0 rfl (aN s.spot) _ HR.o underlying125 rfl bL ?_)|(refine kD rfl (.tmp 9) (.tmp 10) rfl s.spot je rfl _ rfl rfl true HD.o ?_));refine l2.mono ?_;rintro e w2 ⟨rfl,hw2⟩;obtain rfl:=hw2.symm;go_wp2_with (refine qD rfl 125 (.tmp 22) rfl nb 0 rfl (aN s.spot) _ HR.o underlying125 rfl bL ?_);refine l3.mono ?_;rintro e y3 ⟨rfl,h3,k3⟩;have HF:Hid (eB y3 wb L.tb (x.jq s)∧Wk wb w y3):=⟨h3,Dz.o.trans k3⟩;clear h3 k3;go_wp2_with fail;go_end0;exact⟨rfl,HF.o.1,HF.o.2⟩
 ·have HD:Hid (decide (s.spot=je)=false):=mF hp0;have pz:Hid (x.jq s=x.aP s.cur s.spot s.top):=(VZ.o _ rfl).2 (fun h=>hp0 h.1);rw[←pz.o]at l3;clear hp0 l2;go_wp2_with (first|(refine qD rfl 125 (.tmp 8) rfl nb 0 rfl (aN s.spot) _ HR.o underlying125 rfl bL ?_)|(refine kD rfl (.tmp 9) (.tmp 10) rfl s.spot je rfl _ rfl rfl false HD.o ?_)|(refine qD rfl 125 (.tmp 22) rfl nb 0 rfl (aN s.spot) _ HR.o underlying125 rfl bL ?_));refine l3.mono ?_;rintro e y3 ⟨rfl,h3,k3⟩;have HF:Hid (eB y3 wb L.tb (x.jq s)∧Wk wb w y3):=⟨h3,Dz.o.trans k3⟩;clear h3 k3;go_wp2_with fail;go_end0;exact⟨rfl,HF.o.1,HF.o.2⟩
theorem N9{t:List Int}(h:∀i∈t,0≤i∧i<256):∃l:List UInt8,t=l.map (fun c=>(c.toNat:Int)):=by
 induction t with
 |nil=>exact⟨[],rfl⟩
 |cons a t ih=>
  obtain⟨l,rfl⟩:=ih (fun i hi=>h i (List.mem_cons_of_mem _ hi));have ha:=h a (List.mem_cons_self ..);refine⟨UInt8.ofNat a.toNat::l,?_⟩;rw[List.map_cons]
  congr 1
  rw[UInt8.toNat_ofNat_of_lt' (by show a.toNat<256;omega)];omega
def uo (wb:Nat) (t:List Int) (w:World) (e:Ending) (w':World):Prop:=(∃U:ByteArray,e= .returned (.string U)∧bl U=t)∧Below wb w w'
theorem IQ(wb tb:Nat)(p:Value)(q:fO)(w:World)(h:w.heap[wb]? =some (.cells (DI tb p (.slice none 0 0) q).toArray 112 (0,0))):
 Calls prog 54 #[.pointer (some ⟨wb,1,none⟩)] w (uo wb [] w):=by
 have hUS:∀(W:World) (q:Option Addr),(Builtin.unsafeString_ #[165,3] 9 #[.pointer q,.int .i64 0]).run prog W= .ok (.string .empty) W:=fun W q=>Lib.run_unsafeString_none W _ _ _ q;have c1:w.drew.cell? ⟨wb,2,none⟩=some (.slice none 0 0):=(dJ w.drew _ _ _ _ _ h).trans rfl;have hSD:(Builtin.unsafeSliceData_ #[108] 165 #[.slice none 0 0]).run prog w.drew= .ok (.pointer none) w.drew:=rfl;clear h;go_enter func54,ntmps54;go_wp2;go_region
 all_goals (go_wp2;go_ret;exact⟨⟨_,rfl,rfl⟩,Below.drew (dF wb w)⟩)
theorem Ag(wb tb g:Nat)(p:Value)(q:fO)(cur:Array Value)(w:World)(hg:w.heap[g]? =some (.cells cur 5 (0,0)))(h:w.heap[wb]? =some (.cells (DI tb p (.slice (some ⟨g,0,none⟩) 0 0) q).toArray 112 (0,0))):
 Calls prog 54 #[.pointer (some ⟨wb,1,none⟩)] w (uo wb [] w):=by
 have hUS:∀(W:World) (q:Option Addr),(Builtin.unsafeString_ #[165,3] 9 #[.pointer q,.int .i64 0]).run prog W= .ok (.string .empty) W:=fun W q=>Lib.run_unsafeString_none W _ _ _ q;have hlt:=bM h;have hBw:wb≤w.heap.size:=iH hlt;have c1:w.drew.cell? ⟨wb,2,none⟩=some (.slice (some ⟨g,0,none⟩) 0 0):=(dJ w.drew _ _ _ _ _ h).trans rfl;have hSD:(Builtin.unsafeSliceData_ #[108] 165 #[.slice (some ⟨g,0,none⟩) 0 0]).run prog w.drew= .ok (.pointer (some ⟨w.drew.heap.size,0,none⟩)) (w.drew.alloc (.view ⟨g,0,none⟩ 5)):=
  Lib.run_unsafeSliceData_zero w.drew _ _ 5 (by kernel_rfl) ⟨g,0,none⟩ 0 (5,cur.size) (by have hg':w.drew.heap[g]? =some (.cells cur 5 (0,0)):=hg;simp[World.shape?,hg'])
 have c2:(w.drew.alloc (.view ⟨g,0,none⟩ 5)).cell? ⟨wb,2,none⟩=some (.slice (some ⟨g,0,none⟩) 0 0):=by have e:(w.drew.alloc (.view ⟨g,0,none⟩ 5)).heap[wb]? =_:=(Lib.alloc_old w.drew _ wb hlt).trans h;exact(dJ _ _ _ _ _ _ e).trans rfl
 have c3:(w.alloc (.view ⟨g,0,none⟩ 5)).drew.cell? ⟨wb,2,none⟩=some (.slice (some ⟨g,0,none⟩) 0 0):=c2;have c0:w.cell? ⟨wb,2,none⟩=some (.slice (some ⟨g,0,none⟩) 0 0):=c1;clear h hg hlt;go_enter func54,ntmps54;go_wp2;go_region
 all_goals (go_wp2;go_ret;exact⟨⟨_,rfl,rfl⟩,(Below.drew (dF wb w)).alloc hBw _⟩)
theorem FT(wb tb g cap:Nat)(p:Value)(q:fO)(w:World)(hc0:cap≠0)(h:w.heap[wb]? =some (.cells (DI tb p (.slice (some ⟨g,0,none⟩) 0 cap) q).toArray 112 (0,0))):
 Calls prog 54 #[.pointer (some ⟨wb,1,none⟩)] w (uo wb [] w):=by
 have hUS:∀(W:World) (q:Option Addr),(Builtin.unsafeString_ #[165,3] 9 #[.pointer q,.int .i64 0]).run prog W= .ok (.string .empty) W:=fun W q=>Lib.run_unsafeString_none W _ _ _ q;have c1:w.drew.cell? ⟨wb,2,none⟩=some (.slice (some ⟨g,0,none⟩) 0 cap):=(dJ w.drew _ _ _ _ _ h).trans rfl;have hSD:(Builtin.unsafeSliceData_ #[108] 165 #[.slice (some ⟨g,0,none⟩) 0 cap]).run prog w.drew= .ok (.pointer (some ⟨g,0,none⟩)) w.drew:=
  Lib.run_unsafeSliceData_row _ _ _ _ _ _ hc0
 clear h hc0;go_enter func54,ntmps54;go_wp2;go_region
 all_goals (go_wp2;go_ret;exact⟨⟨_,rfl,rfl⟩,Below.drew (dF wb w)⟩)
theorem IU(wb tb g cap:Nat)(p:Value)(q:fO)(cur:Array Value)(l:List UInt8)(h0:l≠[])(w:World)(hbg:wb+1≤g)(hg:w.heap[g]? =some (.cells cur 5 (0,0)))(hnc:l.length≤cap)(hcm:cap≤maxLen)(hcs:cur.size=cap*1)(hcell:∀j (x:UInt8),l[j]? =some x→w.cell? ((⟨g,0,none⟩:Addr).add j)=some (.int .u8 x.toNat))(h:w.heap[wb]? =some (.cells (DI tb p (.slice (some ⟨g,0,none⟩) l.length cap) q).toArray 112 (0,0))):
 Calls prog 54 #[.pointer (some ⟨wb,1,none⟩)] w (uo wb (l.map (fun c=>(c.toNat:Int))) w):=by
 have hl0:l.length≠0:=by simpa using h0
 have c1:w.drew.cell? ⟨wb,2,none⟩=some (.slice (some ⟨g,0,none⟩) l.length cap):=(dJ w.drew _ _ _ _ _ h).trans rfl;have hSD:(Builtin.unsafeSliceData_ #[108] 165 #[.slice (some ⟨g,0,none⟩) l.length cap]).run prog w.drew= .ok (.pointer (some ⟨g,0,none⟩)) w.drew:=
  Lib.run_unsafeSliceData_row _ _ _ _ _ _ (by omega)
 have hUS:(Builtin.unsafeString_ #[165,3] 9 #[.pointer (some ⟨g,0,none⟩),.int .i64 l.length]).run prog w.drew= .ok (.string ⟨l.toArray⟩) (w.drew.freeze ⟨g,0,none⟩ l.length):=
  Lib.run_unsafeString_row w.drew 165 3 9 5 (by kernel_rfl) (by kernel_rfl) g cur.size (by have hg':w.drew.heap[g]? =some (.cells cur 5 (0,0)):=hg;simp[World.shape?,hg']) l h0 (by omega) (by unfold maxLen at hcm;omega) hcell
 have ace:wb≤g:=by omega
 have HL:Hid (bl ⟨l.toArray⟩=l.map (fun c=>(c.toNat:Int))):=by show _=_;unfold bl;simp
 clear h hg hcell hnc hcm hcs h0 hl0 hbg;go_enter func54,ntmps54;go_wp2;go_region
 all_goals (go_wp2;go_ret;exact⟨⟨_,rfl,HL.o⟩,Lib.below_freeze (Below.drew (dF wb w)) (p:=⟨g,0,none⟩) ace _⟩)
theorem IP(wb tb:Nat)(x:WS)(w:World)(h:eB w wb tb x):Calls prog 54 #[.pointer (some ⟨wb,1,none⟩)] w (uo wb x.tx w):=by
 obtain⟨p,v,h1,_,h3⟩:=h.ex;obtain⟨l,hl⟩:=N9 h.TE;have h3':=h3;rcases h3.2 with⟨rfl,e⟩|⟨g,cap,cur,rfl,hbg,hg,hnc,hcm,hcs,_⟩
 ·have:x.tx=[]:=Jk e;rw[this];exact IQ wb tb p x.pen w h1
 ·by_cases h0:l=[]
  ·have hx:x.tx=[]:=by rw[hl,h0];rfl
   rw[hx]at h1 ⊢;by_cases hc0:cap=0
   ·subst hc0;exact Ag wb tb g p x.pen cur w hg h1
   ·exact FT wb tb g cap p x.pen w hc0 h1
  ·have hlen:x.tx.length=l.length:=by rw[hl];simp
   rw[hlen]at h1 hnc;rw[hl];refine IU wb tb g cap p x.pen cur l h0 w hbg hg hnc hcm hcs ?_ h1;intro j y hy;have h4:iL w (wb+1) (.slice (some ⟨g,0,none⟩) x.tx.length cap) x.tx:=h3';exact World.ownsRow.cells (g:=g) h4 (by rfl) j (.int .u8 y.toNat) (by rw[hl];simp[hy])
theorem bX.parts{r:List aC}(h:bX r):∀c∈r,c.part=2∨c.Ok:=by
 induction h with
 |nil=>intro c hc;cases hc
 |one c r hp hw hs h ih=>
  intro d hd;rcases di.1 hd with rfl|hd
  ·exact .inr hs
  ·exact ih d hd
 |two c r hp hw hs h ih=>
  intro d hd;rcases di.1 hd with rfl|hd
  ·exact .inr hs
  ·rcases di.1 hd with rfl|hd
   ·exact .inl rfl
   ·exact ih d hd
theorem vY(hI:s.Inv)(n:Nat):(s.aj n).length=s.rows:=by
 unfold TS.aj;split
 ·exact hI.l0
 ·exact hI.l1
theorem tQ(hF:s.Fit)(n:Nat):GoodS s.aa (s.aj n):=by
 unfold TS.aj;split
 ·exact hF.g0
 ·exact hF.g1
theorem Cj(s:TS)(n i k:Nat):s.cellAt n i k=((s.aj n).getD i []).getD k aQ:=rfl
theorem Oq{α:Type}(l:List α)(k:Nat)(d:α)(h:k<l.length):l.getD k d∈l:=by rw[List.getD_eq_getElem?_getD,gK h];exact Jp h
theorem pF.of(hI:s.Inv)(hF:s.Fit):pF s:=by
 refine⟨fun n i k hi hk=>?_,fun n i k hi hk hp=>?_⟩
 ·have g:=(tQ hF n).getD (i:=i) (by rw[vY hI];exact hi);rw[Cj];exact g.1.parts _ (Oq _ _ _ (by rw[g.2];exact hk))
 ·have g:=(tQ hF n).getD (i:=i) (by rw[vY hI];exact hi);rcases Nat.eq_zero_or_pos k with rfl|h
  ·exact absurd hp (g.1.head aQ (by decide))
  ·exact h
theorem sP.of(hI:s.Inv)(hF:s.Fit):sP s:=by
 refine⟨pF.of hI hF,fun n _ q hq=>?_,fun n _=>vY hI n,fun n _=>?_⟩
 ·have g:=tQ hF n q hq;exact⟨g.2,g.1.parts⟩
 ·unfold TS.dP;split
  ·exact⟨hI.VR,hI.VQ,hF.v0⟩
  ·exact⟨hI.VT,hI.VS,hF.v1⟩
theorem DU.of(hI:s.Inv)(hF:s.Fit):DU s:=⟨⟨⟨hI.row0,hI.iT⟩,⟨hI.fU,hI.gz⟩,⟨hF.f,hF.sc,hF.u,hF.p,hF.w⟩⟩,fun e=>(hF.o e).1⟩
theorem Fs(s:TS)(hI:s.Inv)(hO:sP s):(WS.zero.ek s).tx.length≤40020:=by
 have a0:WS.zero.tx.length=0:=rfl;have a1:∀y:WS,(y.screen s.s0 s.v0).tx.length≤y.tx.length+20000:=fun y=>pY y s hI hO 0 (by omega);have a2:∀y:WS,(y.screen s.s1 s.v1).tx.length≤y.tx.length+20000:=fun y=>pY y s hI hO 1 (by omega);have b1:=a1 WS.zero;have b2:=a2 ((WS.zero.screen s.s0 s.v0).seq [63,52,55,104]);have c1:=iJ (WS.zero.screen s.s0 s.v0) [63,52,55,104];have c2:=iJ (((WS.zero.screen s.s0 s.v0).seq [63,52,55,104]).screen s.s1 s.v1) [63,52,55,108];simp only[fB,dH]at c1 c2;unfold WS.ek WS.second;split
 ·omega
 ·split
  ·omega
  ·omega
theorem P6(x:WS)(s:TS)(hI:s.Inv):(x.tabs s).tx.length≤x.tx.length+300:=by
 unfold WS.tabs;split
 ·omega
 ·have h:=BM s.tabs (x.seq [51,103]) 0;have c1:=iJ x [51,103];simp only[fB,dH]at c1;have:=hI.lt;have:=hI.c2;omega
theorem GQ(x:WS)(s:TS):(x.jq s).tx.length≤x.tx.length+80:=by
 unfold WS.jq;split
 ·omega
 ·exact tY _ _ _ _
theorem U5:(prog.info? 112).map (·.size)=some 8:=by kernel_rfl
theorem KQ(L:Lay)(s:TS)(hI:s.Inv)(hF:s.Fit)(w:World)(ht:a_ w L s):
 Calls prog 20 #[.pointer (some ⟨L.tb,0,none⟩)] w fun e w'=>(∃U:ByteArray,e= .returned (.string U)∧bl U=A_ s)∧Below w.heap.size w w':=by
 have HT:Hid _:=ht;have HI:Hid _:=hI;have HO:Hid (sP s):=sP.of hI hF;have HC:Hid (DU s):=DU.of hI hF;clear ht hI hF;go_enter func20,ntmps20;go_wp2_with (refine bY _ rfl 112 (.tmp 3) (.tmp 5) rfl w.heap.size [.pointer none,.pointer none,.slice none 0 0,.bool false,.bool false,.bool false,.int .i64 0,.int .i64 0] (DI L.tb (.pointer none) (.slice none 0 0) Aa) rfl _ rfl rfl 112 (bJ _ _) rfl U5 (by intro v hv;simp only[DI,di,eU,eX]at hv;rcases hv with rfl|rfl|rfl|rfl|rfl|rfl|rfl|rfl<;>rfl) ?_);intro y1 g1 k1 z1;obtain⟨wb,hwb⟩:∃wb,wb=w.heap.size:=⟨_,rfl⟩;rw[←hwb];rw[←hwb]at g1;have B1:Below wb w y1:=by rw[hwb];exact((dF w.heap.size w).alloc (bE _) _).trans (k1.below (by simp) (fun k hk e=>by omega))
 have X1:Wr y1 wb L s WS.zero:=by refine⟨eB.of (p:=.pointer none) (v:=.slice none 0 0) g1 (.inl rfl) ⟨by simp,.inl ⟨rfl,rfl⟩⟩ (fun i hi=>by cases hi),HT.o.kept (P:=fun k=>wb≤k) ⟨B1.os,B1.tape,B1.output,B1.size,fun i _ hn=>B1.block i (by omega)⟩ (fun k hk hn=>by have:=HT.o.jv hk;omega),fun k hk=>by have:=HT.o.jv hk;omega⟩
 have si:Hid _:=X1;have HB1:Hid _:=B1;have HWB:Hid _:=hwb;clear g1 k1 z1 B1 X1 hwb;have n1:=Fs s HI.o HO.o;have n2:=P6 (WS.zero.ek s) s HI.o;have n3:=Ii ((WS.zero.ek s).tabs s) s;have n4:=GQ (((WS.zero.ek s).tabs s).region s) s;have HN:Hid ((WS.zero.ek s).tx.length≤100000∧((WS.zero.ek s).tabs s).tx.length≤200000∧(((WS.zero.ek s).tabs s).region s).tx.length≤300000∧((((WS.zero.ek s).tabs s).region s).jq s).tx.length≤300000):=⟨by omega,by omega,by omega,by omega⟩;clear n1 n2 n3 n4;have l1:=Ip wb L s HI.o HO.o WS.zero y1 si.o (by show 0≤1000;omega);go_wp2_with fail;refine l1.mono ?_;rintro e y2 ⟨rfl,h2,k2⟩;have uk:Hid (Wr y2 wb L s (WS.zero.ek s)):=si.o.step k2 h2;have HB2:Hid (Below wb w y2):=HB1.o.trans k2.b;clear l1 h2 k2 si HB1;have l2:=RP wb L s HI.o _ y2 uk.o HN.o.1;go_wp2_with fail;refine l2.mono ?_;rintro e y3 ⟨rfl,h3,k3⟩;have sj:Hid (Wr y3 wb L s ((WS.zero.ek s).tabs s)):=uk.o.step k3 h3;have HB3:Hid (Below wb w y3):=HB2.o.trans k3.b;clear l2 h3 k3 uk HB2;have l3:=LQ wb L s HI.o _ y3 sj.o HN.o.2.1;go_wp2_with fail;refine l3.mono ?_;rintro e y4 ⟨rfl,h4,k4⟩;have DD:Hid (Wr y4 wb L s (((WS.zero.ek s).tabs s).region s)):=sj.o.step k4 h4;have HB4:Hid (Below wb w y4):=HB3.o.trans k4.b;clear l3 h4 k4 sj HB3;have l4:=KT wb L s HI.o HO.o HC.o _ y4 DD.o HN.o.2.2.1;go_wp2_with fail;refine l4.mono ?_;rintro e y5 ⟨rfl,h5,k5⟩;have R_:Hid (Wr y5 wb L s ((((WS.zero.ek s).tabs s).region s).jq s)):=DD.o.step k5 h5;have HB5:Hid (Below wb w y5):=HB4.o.trans k5.b;clear l4 h5 k5 DD HB4;have l5:=FJ wb L s _ y5 R_.o HN.o.2.2.2;go_wp2_with fail;refine l5.mono ?_;rintro e y6 ⟨rfl,h6,k6⟩;have HX6:Hid _:=h6;have HB6:Hid (Below wb w y6):=HB5.o.trans k6.b;clear l5 h6 k6 R_ HB5;have l6:=IP wb L.tb _ y6 HX6.o;go_wp2_with fail;refine l6.mono ?_;rintro e y7 ⟨⟨U,rfl,hU⟩,b7⟩;have HU:Hid _:=hU;have HB7:Hid (Below w.heap.size w y7):=by have:=HB6.o.trans b7;rw[HWB.o]at this;exact this
 clear l6 hU b7 HX6 HB6;go_wp2_with fail;go_ret;exact⟨⟨U,rfl,HU.o⟩,HB7.o⟩
theorem yN(fb:Nat)(L:Lay)(x:agM)(hI:x.t.Inv)(hF:x.t.Fit)(w:World)(h:wU w fb L x):
 Calls prog 9 #[.pointer (some ⟨fb,0,none⟩)] w fun e w'=>(∃U:ByteArray,e= .returned (.string U)∧bl U=A_ x.t)∧Below w.heap.size w w':=by
 have hpt:=h.pt;have l1:=KQ L x.t hI hF w h.te;clear h hI hF;go_enter func9,ntmps9;go_wp2_with fail;refine l1.mono ?_;rintro e y7 ⟨⟨U,rfl,hU⟩,b7⟩;have HU:Hid _:=hU;have HB7:Hid _:=b7;clear l1 hU b7;go_wp2_with fail;go_ret;exact⟨⟨U,rfl,HU.o⟩,HB7.o⟩
end Go.Proofs.YtheibfffilomcabGreatDoor
