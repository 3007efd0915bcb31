import Derived.Test.YtheibfffilomcaaGreatDoorTmaU
import Derived.Test.YtheibfffilomcaaGreatDoorZjU
set_option linter.all false
set_option maxRecDepth 100000
set_option maxHeartbeats 2000000
namespace Go.Proofs.YtheibfffilomcaaGreatDoor
open Go.RowKit Go.Proofs.Tryz
theorem B_:∀(T:List Bool) (x:WS) (i k:Nat) (b:Bool),T[k]? =some b→WS.l_ x i (T.take (k+1))=(WS.l_ x i (T.take k)).uE (i+k) b:=by
 intro T;induction T with
 |nil=>intro x i k r h;simp at h
 |cons q T ih=>
  intro x i k r h;cases k with
  |zero=>simp at h;subst h;rfl
  |succ k=>have:=ih (x.uE i q) (i+1) k r (by simpa using h);show WS.l_ (x.uE i q) (i+1) (T.take (k+1))=_;rw[this,show i+1+k=i+(k+1) by omega];rfl
theorem Sj(x:WS)(k:Nat)(b:Bool):(x.uE k b).tx.length≤x.tx.length+7:=by
 unfold WS.uE;split
 ·have h1:=o_ ((k:Int)+1);rw[dV,kZ,fU];simp only[fE,eP];omega
 ·omega
theorem zP:∀(T:List Bool) (x:WS) (i:Nat),(WS.l_ x i T).tx.length≤x.tx.length+7*T.length:=by
 intro T;induction T with
 |nil=>intro x i;exact Nat.le_add_right _ _
 |cons b T ih=>intro x i;have h1:=ih (x.uE i b) (i+1);have h2:=Sj x i b;show(WS.l_ (x.uE i b) (i+1) T).tx.length≤_;rw[fE];omega
theorem CQ(wb:Nat)(L:Lay)(s:TS)(hI:s.Inv)(x:WS)(w:World)(h:Wr w wb L s x):
 Calls prog 148 #[.pointer (some ⟨wb,0,none⟩),.int .i64 (s.ah:Int)] w fun e w'=>e= .returned (.bool (WS.lg 0 s.tabs))∧w'=w:=by
 have c0:=h.c0;have hc2:=hI.c2;have HX0:Hid _:=h;have HI:Hid _:=hI;have hlt:=hI.lt;have TL:Hid _:=hlt;clear h hI hlt;go_enter func148,ntmps148;go_wp2_with fail;go_loopw [7] (fun j wr=>∃k:Nat,k≤s.ah∧j= .int .i64 k∧Hid (wr=w)∧Hid (WS.lg 0 s.tabs=WS.lg k (s.tabs.drop k))) (fun j _=>s.ah-(intOf j).toNat)
 case atStart=>exact⟨0,dx _,rfl,rfl,rfl⟩
 case round=>
  obtain⟨k,hk,rfl,HW,HE⟩:=hrel;obtain rfl:=HW.o;by_cases hkc:k<s.ah
  ·have YE:(k:Int)<(s.ah:Int):=by omega
   have vk:IntKind.i64.wrap ((k:Int)+1)=(k:Int)+1:=bD _ (by omega);have l2:=IK L s k hkc wr HX0.o.te HI.o;have l3:=DI k (by omega) wr;have hdr:s.tabs.drop k=s.tabs.getD k false::s.tabs.drop (k+1):=by
    have:k<s.tabs.length:=by rw[TL.o];exact hkc
    rw[uH this];simp[List.getD,eG this]
   have HD:Hid (WS.lg 0 s.tabs=(decide (s.tabs.getD k false=WS.nR k)&&WS.lg (k+1) (s.tabs.drop (k+1)))):=by show _=_;rw[HE.o,hdr];rfl
   rw[show decide (0<k∧k % 8=0)=WS.nR k from rfl]at l3;clear hdr;generalize s.tabs.getD k false=b at*;generalize WS.nR k=f at*;cases b with
   |false=>
    cases f with
    |false=>
     have HD2:Hid (WS.lg 0 s.tabs=WS.lg (k+1) (s.tabs.drop (k+1))):=by show _=_;rw[HD.o];rfl
     go_wp2_with fail;refine l2.mono ?_;rintro e w2 ⟨rfl,hw2⟩;obtain rfl:=hw2.symm;go_wp2_with fail;refine l3.mono ?_;rintro e w3 ⟨rfl,hw3⟩;obtain rfl:=hw3.symm;go_wp2_with fail;go_roundw
     case rel=>exact⟨k+1,by omega,by go_num,trivial,HD2⟩
     case measure=>simp[intOf];omega
    |true=>
     have HFF:Hid (WS.lg 0 s.tabs=false):=by show _=_;rw[HD.o];rfl
     go_wp2_with fail;refine l2.mono ?_;rintro e w2 ⟨rfl,hw2⟩;obtain rfl:=hw2.symm;go_wp2_with fail;refine l3.mono ?_;rintro e w3 ⟨rfl,hw3⟩;obtain rfl:=hw3.symm;go_wp2_with fail;go_ret;exact⟨by rw[HFF.o];rfl,rfl⟩
   |true=>
    cases f with
    |false=>
     have HFF:Hid (WS.lg 0 s.tabs=false):=by show _=_;rw[HD.o];rfl
     go_wp2_with fail;refine l2.mono ?_;rintro e w2 ⟨rfl,hw2⟩;obtain rfl:=hw2.symm;go_wp2_with fail;refine l3.mono ?_;rintro e w3 ⟨rfl,hw3⟩;obtain rfl:=hw3.symm;go_wp2_with fail;go_ret;exact⟨by rw[HFF.o];rfl,rfl⟩
    |true=>
     have HD2:Hid (WS.lg 0 s.tabs=WS.lg (k+1) (s.tabs.drop (k+1))):=by show _=_;rw[HD.o];rfl
     go_wp2_with fail;refine l2.mono ?_;rintro e w2 ⟨rfl,hw2⟩;obtain rfl:=hw2.symm;go_wp2_with fail;refine l3.mono ?_;rintro e w3 ⟨rfl,hw3⟩;obtain rfl:=hw3.symm;go_wp2_with fail;go_roundw
     case rel=>exact⟨k+1,by omega,by go_num,trivial,HD2⟩
     case measure=>simp[intOf];omega
  ·have YE:¬(k:Int)<(s.ah:Int):=by omega
   have VJ:Hid (WS.lg 0 s.tabs=true):=by show _=_;rw[HE.o,qB (by rw[TL.o];omega)];rfl
   go_wp2_with fail;go_ret;exact⟨by rw[VJ.o];rfl,rfl⟩
theorem Vy(wb:Nat)(L:Lay)(s:TS)(hI:s.Inv)(x:WS)(w:World)(h:Wr w wb L s x)(hx:x.tx.length≤100000):
 Calls prog 70 #[.pointer (some ⟨wb,0,none⟩)] w fun e w'=>e= .returned (.tuple #[])∧iK w' wb L.tb (x.tabs s)∧Wk wb w w':=by
 have c0:=h.c0;have hc2:=hI.c2;have l1:=sF L s w h.te hI;have l2:=CQ wb L s hI x w h;have HX0:Hid _:=h;have HI:Hid _:=hI;have TL:Hid (s.tabs.length=s.ah):=hI.lt;clear h hI;cases hfr:WS.lg 0 s.tabs with
 |true=>
  have sP:Hid (x.tabs s=x):=by show _=_;unfold WS.tabs;rw[ak hfr]
  rw[hfr]at l2;go_enter func70,ntmps70;go_wp2_with (first|(go_at_call 147;refine l1.mono ?_;rintro e w1 ⟨rfl,hw1⟩;have hw2:=hw1.symm;subst hw2)|(go_at_call 148;refine l2.mono ?_;rintro e w1 ⟨rfl,hw1⟩;have hw2:=hw1.symm;subst hw2));refine bX (dz rfl _ _ _) rfl ?_;exact⟨rfl,by rw[sP.o];exact HX0.o.wr,Wk.refl _ _⟩
 |false=>
  have sP:Hid (x.tabs s=WS.l_ (x.seq [51,103]) 0 s.tabs):=by show _=_;unfold WS.tabs;rw[hfr,ai (by decide)]
  rw[hfr]at l2;have l3:=gT wb L.tb x {data:=#[51,103]} w HX0.o.wr (by omega) (by decide);rw[show bl ({data:=#[51,103]}:ByteArray)=[51,103] by rfl]at l3;have n3:=kZ x [51,103];simp only[fE,eP]at n3;go_enter func70,ntmps70;go_wp2_with (first|(go_at_call 147;refine l1.mono ?_;rintro e w1 ⟨rfl,hw1⟩;have hw2:=hw1.symm;subst hw2)|(go_at_call 148;refine l2.mono ?_;rintro e w1 ⟨rfl,hw1⟩;have hw2:=hw1.symm;subst hw2));refine l3.mono ?_;rintro e y3 ⟨rfl,h3,k3⟩;have wD:Hid (Wr y3 wb L s (x.seq [51,103])):=HX0.o.step k3 h3;have Ep:Hid _:=k3;obtain⟨xs,hxs⟩:∃xs,xs=x.seq [51,103]:=⟨_,rfl⟩;rw[←hxs]at wD sP n3;clear h3 k3 l3 l1 l2 c0 hfr HX0 hxs;go_wp2_with fail;go_loopw [19] (fun j wr=>∃k:Nat,k≤s.ah∧j= .int .i64 k∧Hid (Wr wr wb L s (WS.l_ xs 0 (s.tabs.take k)))∧Hid (Wk wb w wr)) (fun j _=>s.ah-(intOf j).toNat)
  case atStart=>exact⟨0,dx _,rfl,wD,Ep⟩
  case round=>
   clear wD Ep;obtain⟨k,hk,rfl,HX,HK⟩:=hrel;have hlen:(WS.l_ xs 0 (s.tabs.take k)).tx.length≤200000:=by
    have h1:=zP (s.tabs.take k) xs 0;have h2:(s.tabs.take k).length≤40:=by rw[kg,TL.o];omega
    omega
   by_cases hkc:k<s.ah
   ·have YE:(k:Int)<(s.ah:Int):=by omega
    have vk:IntKind.i64.wrap ((k:Int)+1)=(k:Int)+1:=bD _ (by omega);have c0:=HX.o.c0;have l4:=IK L s k hkc wr HX.o.te HI.o;have Zk:s.tabs[k]? =some (s.tabs.getD k false):=by
     have:k<s.tabs.length:=by rw[TL.o];exact hkc
     simp[List.getD,eG this]
    have HE:Hid (WS.l_ xs 0 (s.tabs.take (k+1))=(WS.l_ xs 0 (s.tabs.take k)).uE k (s.tabs.getD k false)):=by have:=B_ s.tabs xs 0 k _ Zk;rw[lH]at this;exact this
    clear Zk;generalize s.tabs.getD k false=b at*;obtain⟨xk,hxk⟩:∃xk,xk=WS.l_ xs 0 (s.tabs.take k):=⟨_,rfl⟩;rw[←hxk]at HX HE hlen;clear hxk;cases b with
    |false=>
     go_wp2_with fail;refine l4.mono ?_;rintro e w2 ⟨rfl,hw2⟩;obtain rfl:=hw2.symm;go_wp2_with fail;go_roundw
     case rel=>exact⟨k+1,by omega,by go_num,by rw[HE.o];exact HX,HK⟩
     case measure=>simp[intOf];omega
    |true=>
     have l5:=uS (k+1) (by omega) wr;rw[show(((k+1:Nat)):Int)=(k:Int)+1 by omega]at l5;have zd:=oJ ((k:Int)+1);have l6:=gT wb L.tb xk (tK ((k:Int)+1)++{data:=#[71]}) wr HX.o.wr (by omega) (by rw[iC];show(tK ((k:Int)+1)).size+1≤_;omega);rw[aL,vM (by omega),show bl ({data:=#[71]}:ByteArray)=[71] by rfl]at l6;have n6:=kZ xk (jB ((k:Int)+1)++[71]);have nd:=o_ ((k:Int)+1);rw[fU]at n6;simp only[fE,eP]at n6;have HE2:Hid (WS.l_ xs 0 (s.tabs.take (k+1))=(xk.seq (jB ((k:Int)+1)++[71])).put [27,72]):=HE.o.trans rfl;generalize tK ((k:Int)+1)=D at*;go_wp2_with fail;refine l4.mono ?_;rintro e w2 ⟨rfl,hw2⟩;obtain rfl:=hw2.symm;go_wp2_with fail;refine l5.mono ?_;rintro e w2 ⟨rfl,hw2⟩;obtain rfl:=hw2.symm;go_wp2_with fail;refine l6.mono ?_;rintro e y7 ⟨rfl,h7,k7⟩;have HX7:Hid (Wr y7 wb L s (xk.seq (jB ((k:Int)+1)++[71]))):=HX.o.step k7 h7;have Al:Hid (Wk wb w y7):=HK.o.trans k7;have l8:=aG wb L.tb (xk.seq (jB ((k:Int)+1)++[71])) {data:=#[27,72]} y7 h7 (by omega) (by decide);rw[gD _ (show bl ({data:=#[27,72]}:ByteArray)=[27,72] by rfl), ←HE2.o]at l8;clear h7 k7 l6 l5 l4 c0 HX HK;go_wp2_with fail;refine l8.mono ?_;rintro e y8 ⟨⟨v8,rfl⟩,h8,k8⟩;have HX8:Hid (Wr y8 wb L s (WS.l_ xs 0 (s.tabs.take (k+1)))):=HX7.o.step k8 h8;have HK8:Hid (Wk wb w y8):=Al.o.trans k8;clear h8 k8 l8;go_wp2_with fail;go_roundw
     case rel=>exact⟨k+1,by omega,by go_num,HX8,HK8⟩
     case measure=>simp[intOf];omega
   ·have YE:¬(k:Int)<(s.ah:Int):=by omega
    have hke:s.tabs.take k=s.tabs:=nL (by rw[TL.o];omega);rw[hke]at HX;have HF:Hid (iK wr wb L.tb (x.tabs s)):=by rw[sP.o];exact HX.o.wr
    clear hke;go_wp2_with fail;go_end0;exact⟨rfl,HF.o,HK.o⟩
end Go.Proofs.YtheibfffilomcaaGreatDoor
