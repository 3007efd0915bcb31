import Derived.Test.YtheibfffilomcabGreatDoorR4U
import Derived.Test.YtheibfffilomcabGreatDoorZi
set_option linter.all false
set_option maxRecDepth 100000
set_option maxHeartbeats 2000000
namespace Go.Proofs.YtheibfffilomcabGreatDoor
open Go.RowKit Go.Proofs.Tryz
theorem Gp{ops:Array Oper}{rest:List Oper}{o:Oper}{a:Act}{u:World}{Q:Exit→Act→World→Prop}(hgd:o.guard=none)(x y:Operand)(ho:o.op= .binOp .neq 104 x y 104)(c d:aC)(hx:a.eval x= .agg (bO c))(hy:a.eval y= .agg (bO d))(b:Bool)(hb:(!decide (c=d))=b)(h:wpList prog ops Q rest (a.put o.dst (.bool b)) u):wpList prog ops Q (o::rest) a u:=by
 subst hb;refine sI hgd fun K hK=>?_;have R:=hK _ _ h;unfold Oper.wp;rw[Fu x y ho c d hx hy u];exact R
theorem Pg{S:bK}{i k:Nat}{r:List aC}{c:aC}(hr:S[i]? =some r)(hc:r[k]? =some c)(h:c≠aQ):WS.nY S=false:=by
 cases e:WS.nY S with
 |false=>rfl
 |true=>unfold WS.nY at e;rw[List.all_eq_true]at e;have e2:=e r (fu hr);rw[List.all_eq_true]at e2;exact absurd (nG (e2 c (fu hc))) h
theorem LM{S:bK}{rows aa:Nat}(hl:S.length=rows)(hc:∀r∈S,r.length=aa)(h:∀i k,i<rows→k<aa→(S.getD i []).getD k aQ=aQ):WS.nY S=true:=by unfold WS.nY;rw[List.all_eq_true];intro r hr;rw[List.all_eq_true];intro c hcm;obtain⟨i,hi⟩:=List.getElem?_of_mem hr;obtain⟨k,hk⟩:=List.getElem?_of_mem hcm;have h1:=(ja.1 hi).1;have h2:=(ja.1 hk).1;have:=h i k (by omega) (by rw[←hc r hr];exact h2);simp only[List.getD,hi,hk,Option.getD_some]at this;exact mE this
theorem CE(wb:Nat)(L:Lay)(s:TS)(hI:s.Inv)(hO:sP s)(n:Nat)(hn:n<2)(x:WS)(w:World)(h:Wr w wb L s x):
 Calls prog 88 #[.pointer (some ⟨wb,0,none⟩),.int .i64 (n:Int)] w fun e w'=>e= .returned (.bool (WS.pO (s.aj n) (s.dP n)))∧Below w.heap.size w w':=by
 have c0:=h.c0;have l1:=o5 L s w h.te hI;have hr2:=hI.r2;have hc2:=hI.c2;have HX0:Hid _:=h;have HI:Hid _:=hI;have HO:Hid _:=hO;have KX:∀y,Below w.heap.size w y→Wr y wb L s x:=fun y hy=>h.keep hy;have HKX:Hid _:=KX;clear h hI hO KX;go_enter func88,ntmps88;go_wp2_with (go_at_call 90;refine l1.mono ?_;rintro e w1 ⟨rfl,hw1⟩;have hw2:=hw1.symm;subst hw2);go_loopw [18] (fun j wr=>∃i:Nat,i≤s.rows∧j= .int .i64 i∧Hid (Below w.heap.size w wr)∧Hid (∀a b,a<i→b<s.aa→s.cellAt n a b=aQ)) (fun j _=>s.rows-(intOf j).toNat)
 case atStart=>exact⟨0,jy _,rfl,dF _ _,fun a b ha=>by omega⟩
 case round=>
  clear l1 c0;obtain⟨i,hi,rfl,HB,HA⟩:=hrel;by_cases hir:i<s.rows
  ·have iir:(i:Int)<(s.rows:Int):=by omega
   have vi:IntKind.i64.wrap ((i:Int)+1)=(i:Int)+1:=bV _ (by omega);go_wp2_with fail;go_loopw [22] (fun j wr=>∃k:Nat,k≤s.aa∧j= .int .i64 k∧Hid (Below w.heap.size w wr)∧Hid (∀b,b<k→s.cellAt n i b=aQ)) (fun j _=>s.aa-(intOf j).toNat)
   case atStart=>exact⟨0,jy _,rfl,HB,fun b hb=>by omega⟩
   case round=>
    clear HB;obtain⟨k,hk,rfl,HB,HD⟩:=hrel;have c0:=(HKX.o _ HB.o).c0;by_cases hkc:k<s.aa
    ·have UY:(k:Int)<(s.aa:Int):=by omega
     have vk:IntKind.i64.wrap ((k:Int)+1)=(k:Int)+1:=bV _ (by omega);have l3:=mD L s n i k hn hir hkc wr (HKX.o _ HB.o).te HI.o;generalize hce:s.cellAt n i k=c at*;have V6:Hid _:=hce;clear hce;by_cases hcb:c=aQ
     ·have HN:Hid ((!decide (c=aQ))=false):=by show _=_;rw[mE hcb];rfl
      have Ws:Hid _:=hcb;clear hcb;go_wp2_with fail;refine l3.mono ?_;rintro e x1 ⟨rfl,q1⟩;have HB1:Hid (Below w.heap.size w x1):=HB.o.trans (q1.nI.mono HB.o.size);clear q1;go_wp2_with fail;refine(j5 x1).mono ?_;rintro e x2 ⟨rfl,b2⟩;have HB2:Hid (Below w.heap.size w x2):=HB1.o.trans (b2.mono HB1.o.size);clear b2;go_wp2_with (refine Gp rfl (.tmp 32) (.tmp 33) rfl c aQ rfl rfl false HN.o ?_);go_roundw
      case rel=>exact⟨k+1,by omega,by go_num,HB2,fun b hb=>by
       rcases Nat.lt_succ_iff_lt_or_eq.1 hb with h|h
       ·exact HD.o b h
       ·rw[h];exact V6.o.trans Ws.o⟩
      case measure=>simp[intOf];omega
     ·have HN:Hid ((!decide (c=aQ))=true):=by show _=_;rw[mF hcb];rfl
      have HFR:Hid (WS.pO (s.aj n) (s.dP n)=false):=by
       show _=_;unfold WS.pO;have hl:=HO.o.l n hn;have Wj:(s.aj n)[i]? =some ((s.aj n).getD i []):=by simp[List.getD,gK (show i<(s.aj n).length by omega)]
       have hrl:=(HO.o.r n hn _ (fu Wj)).1;have lU:((s.aj n).getD i [])[k]? =some c:=by rw[←V6.o];show _=some (((s.aj n).getD i []).getD k aQ);simp only[List.getD]at hrl ⊢;rw[gK (by rw[hrl];exact hkc)];rfl
       rw[Pg Wj lU hcb];rfl
      go_wp2_with fail;refine l3.mono ?_;rintro e x1 ⟨rfl,q1⟩;have HB1:Hid (Below w.heap.size w x1):=HB.o.trans (q1.nI.mono HB.o.size);clear q1;go_wp2_with fail;refine(j5 x1).mono ?_;rintro e x2 ⟨rfl,b2⟩;have HB2:Hid (Below w.heap.size w x2):=HB1.o.trans (b2.mono HB1.o.size);clear b2;go_wp2_with (refine Gp rfl (.tmp 32) (.tmp 33) rfl c aQ rfl rfl true HN.o ?_);go_ret;exact⟨by rw[HFR.o];rfl,HB2.o⟩
    ·have UY:¬(k:Int)<(s.aa:Int):=by omega
     go_wp2_with fail;go_roundw
     case rel=>exact⟨i+1,by omega,by go_num,HB,fun a b ha hb=>by
      rcases Nat.lt_succ_iff_lt_or_eq.1 ha with h|h
      ·exact HA.o a b h hb
      ·rw[h];exact HD.o b (by omega)⟩
     case measure=>simp[intOf];omega
  ·have iir:¬(i:Int)<(s.rows:Int):=by omega
   have c0:=(HKX.o _ HB.o).c0;have l4:=zN L s n hn wr (HKX.o _ HB.o).te;have HFR:Hid (WS.pO (s.aj n) (s.dP n)=decide (s.dP n=je)):=by show _=_;unfold WS.pO;rw[LM (HO.o.l n hn) (fun r hr=>(HO.o.r n hn r hr).1) (fun a b ha hb=>HA.o a b (by omega) hb),Bool.true_and]
   go_wp2_with fail;refine l4.mono ?_;rintro e x1 ⟨rfl,q1⟩;have HB1:Hid (Below w.heap.size w x1):=HB.o.trans (q1.nI.mono HB.o.size);clear q1;go_wp2_with (refine kD rfl (.tmp 42) (.tmp 43) rfl (s.dP n) je rfl _ rfl rfl _ rfl ?_);go_ret;exact⟨by rw[HFR.o];rfl,HB1.o⟩
theorem PN(L:Lay)(s:TS)(w:World)(ht:a_ w L s):Calls prog 87 #[.pointer (some ⟨L.tb,0,none⟩)] w fun e w'=>e= .returned (.agg #[.int .i64 s.row,.int .i64 s.col,.bool s.waits,.bool s.pen.b,.bool s.pen.u,.bool s.pen.t,.int .i64 s.pen.f,.int .i64 s.pen.k,.int .i64 s.first,.int .i64 s.second,.int .i64 s.use,.bool s.origin,.int .i64 s.top,.int .i64 s.bottom,.bool s.wrap,.bool s.insert,.int .i64 s.shown])∧Sm w w':=rX L s w ht
theorem pY(x:WS)(s:TS)(hI:s.Inv)(hO:sP s)(n:Nat)(hn:n<2):(x.screen (s.aj n) (s.dP n)).tx.length≤x.tx.length+20000:=by
 have hr2:=hI.r2;have hc2:=hI.c2;have h1:=Fs 40 (s.aj n) x 0 (fun r hr=>by have:=(hO.r n hn r hr).1;omega);have h2:(s.aj n).length≤12:=by rw[hO.l n hn];omega
 have:=Nat.mul_le_mul_left (32*40) h2;have h3:=Md (WS.nN x 0 (s.aj n)) (s.aj n) (s.dP n);show((WS.nN x 0 (s.aj n)).saved (s.aj n) (s.dP n)).tx.length≤_;omega
theorem Ir(wb:Nat)(L:Lay)(s:TS)(hI:s.Inv)(hO:sP s)(x:WS)(w:World)(h:Wr w wb L s x)(hx:x.tx.length≤1000):
 Calls prog 49 #[.pointer (some ⟨wb,0,none⟩)] w fun e w'=>e= .returned (.tuple #[])∧eB w' wb L.tb (x.ek s)∧Wk wb w w':=by
 have l1:=vV wb L s hI hO 0 (by omega) x w h (by omega);have n1:=pY x s hI hO 0 (by omega);have HX0:Hid _:=h;have HI:Hid _:=hI;have HO:Hid _:=hO;have hsh:=hI.sh;clear h hI hO;go_enter func49,ntmps49;go_wp2_with fail;refine l1.mono ?_;rintro e y1 ⟨rfl,h1,k1⟩;have si:Hid (Wr y1 wb L s (x.screen (s.aj 0) (s.dP 0))):=HX0.o.step k1 h1;have DD:Hid _:=k1;have c0:=si.o.c0;have l2:=PN L s y1 si.o.te;have hfd:∀u:World,(Instr.field 127 (.agg #[.int .i64 s.row,.int .i64 s.col,.bool s.waits,.bool s.pen.b,.bool s.pen.u,.bool s.pen.t,.int .i64 s.pen.f,.int .i64 s.pen.k,.int .i64 s.first,.int .i64 s.second,.int .i64 s.use,.bool s.origin,.int .i64 s.top,.int .i64 s.bottom,.bool s.wrap,.bool s.insert,.int .i64 s.shown]) 5).run prog u= .ok (.int .i64 s.shown) u:=by intro u;kernel_rfl
 obtain⟨x1,hx1⟩:∃x1,x1=x.screen (s.aj 0) (s.dP 0):=⟨_,rfl⟩;rw[←hx1]at si n1;have HXE:Hid (x.ek s=x1.second s):=by show _=_;rw[hx1];rfl
 clear h1 k1 l1 hx1;rcases hsh with hsh|hsh
 ·have HNS:Hid _:=hsh;have hs0:(s.shown==1)=false:=by rw[hsh];rfl
  clear hsh;go_wp2_with fail;refine l2.mono ?_;rintro e y2 ⟨rfl,q2⟩;have uk:Hid (Wr y2 wb L s x1):=si.o.keep q2.nI;have Gu:Hid (Wk wb w y2):=DD.o.trans (Wk.of_below q2.nI (iH si.o.lt));clear q2 l2 c0;have l3:=CE wb L s HI.o HO.o 1 (by omega) x1 y2 uk.o;cases hfr:WS.pO (s.aj 1) (s.dP 1)with
  |true=>
   have pz:Hid (x.ek s=x1):=by show _=_;rw[HXE.o];unfold WS.second;rw[aG (by rw[HNS.o];decide),show WS.pO s.s1 s.v1=true from hfr,aS rfl]
   rw[hfr]at l3;go_wp2_with fail;refine l3.mono ?_;rintro e y3 ⟨rfl,b3⟩;have HF:Hid (eB y3 wb L.tb (x.ek s)∧Wk wb w y3):=⟨by rw[pz.o];exact uk.o.wr.keep b3,Gu.o.trans (Wk.of_below b3 (iH uk.o.lt))⟩;clear b3 l3;go_wp2_with fail;refine gL (lF rfl _ _ _) rfl ?_;exact⟨rfl,HF.o.1,HF.o.2⟩
  |false=>
   have pz:Hid (x.ek s=((x1.seq [63,52,55,104]).screen (s.aj 1) (s.dP 1)).seq [63,52,55,108]):=by show _=_;rw[HXE.o];unfold WS.second;rw[aG (by rw[HNS.o];decide),show WS.pO s.s1 s.v1=false from hfr,aG (by decide)];rfl
   rw[hfr]at l3;go_wp2_with fail;refine l3.mono ?_;rintro e y3 ⟨rfl,b3⟩;have sj:Hid (Wr y3 wb L s x1):=uk.o.keep b3;have Gv:Hid (Wk wb w y3):=Gu.o.trans (Wk.of_below b3 (iH uk.o.lt));have l4:=dM wb L.tb x1 {data:=#[63,52,55,104]} y3 sj.o.wr (by omega) (by decide);rw[show bl ({data:=#[63,52,55,104]}:ByteArray)=[63,52,55,104] by rfl]at l4;have n4:=iJ x1 [63,52,55,104];simp only[fB,dH]at n4;clear b3 l3 uk Gu;go_wp2_with fail;refine l4.mono ?_;rintro e y4 ⟨rfl,h4,k4⟩;have DI:Hid (Wr y4 wb L s (x1.seq [63,52,55,104])):=sj.o.step k4 h4;have Qp:Hid (Wk wb w y4):=Gv.o.trans k4;have l5:=vV wb L s HI.o HO.o 1 (by omega) (x1.seq [63,52,55,104]) y4 DI.o (by omega);have n5:=pY (x1.seq [63,52,55,104]) s HI.o HO.o 1 (by omega);clear h4 k4 l4 sj Gv;go_wp2_with fail;refine l5.mono ?_;rintro e y5 ⟨rfl,h5,k5⟩;have WB:Hid (Wk wb w y5):=Qp.o.trans k5;have l6:=dM wb L.tb ((x1.seq [63,52,55,104]).screen (s.aj 1) (s.dP 1)) {data:=#[63,52,55,108]} y5 h5 (by omega) (by decide);rw[show bl ({data:=#[63,52,55,108]}:ByteArray)=[63,52,55,108] by rfl]at l6;clear h5 k5 l5 DI Qp;go_wp2_with fail;refine l6.mono ?_;rintro e y6 ⟨rfl,h6,k6⟩;have HF:Hid (eB y6 wb L.tb (x.ek s)∧Wk wb w y6):=⟨by rw[pz.o];exact h6,WB.o.trans k6⟩;clear h6 k6 l6;go_wp2_with fail;go_end0;exact⟨rfl,HF.o.1,HF.o.2⟩
 ·have pz:Hid (x.ek s=(x1.seq [63,52,55,104]).screen (s.aj 1) (s.dP 1)):=by show _=_;rw[HXE.o];unfold WS.second;rw[aS hsh];rfl
  have hs0:(s.shown==1)=true:=by rw[hsh];rfl
  clear hsh;go_wp2_with fail;refine l2.mono ?_;rintro e y3 ⟨rfl,q2⟩;have sj:Hid (Wr y3 wb L s x1):=si.o.keep q2.nI;have Gv:Hid (Wk wb w y3):=DD.o.trans (Wk.of_below q2.nI (iH si.o.lt));have l4:=dM wb L.tb x1 {data:=#[63,52,55,104]} y3 sj.o.wr (by omega) (by decide);rw[show bl ({data:=#[63,52,55,104]}:ByteArray)=[63,52,55,104] by rfl]at l4;have n4:=iJ x1 [63,52,55,104];simp only[fB,dH]at n4;clear q2 l2 c0;go_wp2_with fail;refine l4.mono ?_;rintro e y4 ⟨rfl,h4,k4⟩;have DI:Hid (Wr y4 wb L s (x1.seq [63,52,55,104])):=sj.o.step k4 h4;have Qp:Hid (Wk wb w y4):=Gv.o.trans k4;have l5:=vV wb L s HI.o HO.o 1 (by omega) (x1.seq [63,52,55,104]) y4 DI.o (by omega);clear h4 k4 l4 sj Gv;go_wp2_with fail;refine l5.mono ?_;rintro e y5 ⟨rfl,h5,k5⟩;have HF:Hid (eB y5 wb L.tb (x.ek s)∧Wk wb w y5):=⟨by rw[pz.o];exact h5,Qp.o.trans k5⟩;clear h5 k5 l5;go_wp2_with fail;go_end0;exact⟨rfl,HF.o.1,HF.o.2⟩
theorem Ja:∀(T:List Bool) (x:WS) (i k:Nat) (b:Bool),T[k]? =some b→WS.m_ x i (T.take (k+1))=(WS.m_ x i (T.take k)).Dq (i+k) b:=by
 intro T;induction T with
 |nil=>intro x i k r h;simp at h
 |cons q T ih=>
  intro x i k r h;cases k with
  |zero=>simp at h;subst h;rfl
  |succ k=>have:=ih (x.Dq i q) (i+1) k r (by simpa using h);show WS.m_ (x.Dq i q) (i+1) (T.take (k+1))=_;rw[this,show i+1+k=i+(k+1) by omega];rfl
theorem P7(x:WS)(k:Nat)(b:Bool):(x.Dq k b).tx.length≤x.tx.length+7:=by
 unfold WS.Dq;split
 ·have h1:=kS ((k:Int)+1);rw[bN,iJ,lQ];simp only[fB,dH];omega
 ·omega
theorem BN:∀(T:List Bool) (x:WS) (i:Nat),(WS.m_ x i T).tx.length≤x.tx.length+7*T.length:=by
 intro T;induction T with
 |nil=>intro x i;exact Nat.le_add_right _ _
 |cons b T ih=>intro x i;have h1:=ih (x.Dq i b) (i+1);have h2:=P7 x i b;show(WS.m_ (x.Dq i b) (i+1) T).tx.length≤_;rw[fB];omega
theorem Am(wb:Nat)(L:Lay)(s:TS)(hI:s.Inv)(x:WS)(w:World)(h:Wr w wb L s x):
 Calls prog 91 #[.pointer (some ⟨wb,0,none⟩),.int .i64 (s.aa:Int)] w fun e w'=>e= .returned (.bool (WS.mZ 0 s.tabs))∧w'=w:=by
 have c0:=h.c0;have hc2:=hI.c2;have HX0:Hid _:=h;have HI:Hid _:=hI;have hlt:=hI.lt;have QC:Hid _:=hlt;clear h hI hlt;go_enter func91,ntmps91;go_wp2_with fail;go_loopw [7] (fun j wr=>∃k:Nat,k≤s.aa∧j= .int .i64 k∧Hid (wr=w)∧Hid (WS.mZ 0 s.tabs=WS.mZ k (s.tabs.drop k))) (fun j _=>s.aa-(intOf j).toNat)
 case atStart=>exact⟨0,jy _,rfl,rfl,rfl⟩
 case round=>
  obtain⟨k,hk,rfl,HW,HE⟩:=hrel;obtain rfl:=HW.o;by_cases hkc:k<s.aa
  ·have UY:(k:Int)<(s.aa:Int):=by omega
   have vk:IntKind.i64.wrap ((k:Int)+1)=(k:Int)+1:=bV _ (by omega);have l2:=Ga L s k hkc wr HX0.o.te HI.o;have l3:=Bj k (by omega) wr;have hdr:s.tabs.drop k=s.tabs.getD k false::s.tabs.drop (k+1):=by
    have:k<s.tabs.length:=by rw[QC.o];exact hkc
    rw[Jl this];simp[List.getD,gK this]
   have HD:Hid (WS.mZ 0 s.tabs=(decide (s.tabs.getD k false=WS.uD k)&&WS.mZ (k+1) (s.tabs.drop (k+1)))):=by show _=_;rw[HE.o,hdr];rfl
   rw[show decide (0<k∧k % 8=0)=WS.uD k from rfl]at l3;clear hdr;generalize s.tabs.getD k false=b at*;generalize WS.uD k=f at*;cases b with
   |false=>
    cases f with
    |false=>
     have HD2:Hid (WS.mZ 0 s.tabs=WS.mZ (k+1) (s.tabs.drop (k+1))):=by show _=_;rw[HD.o];rfl
     go_wp2_with fail;refine l2.mono ?_;rintro e w2 ⟨rfl,hw2⟩;obtain rfl:=hw2.symm;go_wp2_with fail;refine l3.mono ?_;rintro e w3 ⟨rfl,hw3⟩;obtain rfl:=hw3.symm;go_wp2_with fail;go_roundw
     case rel=>exact⟨k+1,by omega,by go_num,trivial,HD2⟩
     case measure=>simp[intOf];omega
    |true=>
     have HFF:Hid (WS.mZ 0 s.tabs=false):=by show _=_;rw[HD.o];rfl
     go_wp2_with fail;refine l2.mono ?_;rintro e w2 ⟨rfl,hw2⟩;obtain rfl:=hw2.symm;go_wp2_with fail;refine l3.mono ?_;rintro e w3 ⟨rfl,hw3⟩;obtain rfl:=hw3.symm;go_wp2_with fail;go_ret;exact⟨by rw[HFF.o];rfl,rfl⟩
   |true=>
    cases f with
    |false=>
     have HFF:Hid (WS.mZ 0 s.tabs=false):=by show _=_;rw[HD.o];rfl
     go_wp2_with fail;refine l2.mono ?_;rintro e w2 ⟨rfl,hw2⟩;obtain rfl:=hw2.symm;go_wp2_with fail;refine l3.mono ?_;rintro e w3 ⟨rfl,hw3⟩;obtain rfl:=hw3.symm;go_wp2_with fail;go_ret;exact⟨by rw[HFF.o];rfl,rfl⟩
    |true=>
     have HD2:Hid (WS.mZ 0 s.tabs=WS.mZ (k+1) (s.tabs.drop (k+1))):=by show _=_;rw[HD.o];rfl
     go_wp2_with fail;refine l2.mono ?_;rintro e w2 ⟨rfl,hw2⟩;obtain rfl:=hw2.symm;go_wp2_with fail;refine l3.mono ?_;rintro e w3 ⟨rfl,hw3⟩;obtain rfl:=hw3.symm;go_wp2_with fail;go_roundw
     case rel=>exact⟨k+1,by omega,by go_num,trivial,HD2⟩
     case measure=>simp[intOf];omega
  ·have UY:¬(k:Int)<(s.aa:Int):=by omega
   have R8:Hid (WS.mZ 0 s.tabs=true):=by show _=_;rw[HE.o,yj (by rw[QC.o];omega)];rfl
   go_wp2_with fail;go_ret;exact⟨by rw[R8.o];rfl,rfl⟩
theorem RV(wb:Nat)(L:Lay)(s:TS)(hI:s.Inv)(x:WS)(w:World)(h:Wr w wb L s x)(hx:x.tx.length≤100000):
 Calls prog 50 #[.pointer (some ⟨wb,0,none⟩)] w fun e w'=>e= .returned (.tuple #[])∧eB w' wb L.tb (x.tabs s)∧Wk wb w w':=by
 have c0:=h.c0;have hc2:=hI.c2;have l1:=o5 L s w h.te hI;have l2:=Am wb L s hI x w h;have HX0:Hid _:=h;have HI:Hid _:=hI;have QC:Hid (s.tabs.length=s.aa):=hI.lt;clear h hI;cases hfr:WS.mZ 0 s.tabs with
 |true=>
  have pz:Hid (x.tabs s=x):=by show _=_;unfold WS.tabs;rw[aS hfr]
  rw[hfr]at l2;go_enter func50,ntmps50;go_wp2_with (first|(go_at_call 90;refine l1.mono ?_;rintro e w1 ⟨rfl,hw1⟩;have hw2:=hw1.symm;subst hw2)|(go_at_call 91;refine l2.mono ?_;rintro e w1 ⟨rfl,hw1⟩;have hw2:=hw1.symm;subst hw2));refine gL (lF rfl _ _ _) rfl ?_;exact⟨rfl,by rw[pz.o];exact HX0.o.wr,Wk.refl _ _⟩
 |false=>
  have pz:Hid (x.tabs s=WS.m_ (x.seq [51,103]) 0 s.tabs):=by show _=_;unfold WS.tabs;rw[hfr,aG (by decide)]
  rw[hfr]at l2;have l3:=dM wb L.tb x {data:=#[51,103]} w HX0.o.wr (by omega) (by decide);rw[show bl ({data:=#[51,103]}:ByteArray)=[51,103] by rfl]at l3;have n3:=iJ x [51,103];simp only[fB,dH]at n3;go_enter func50,ntmps50;go_wp2_with (first|(go_at_call 90;refine l1.mono ?_;rintro e w1 ⟨rfl,hw1⟩;have hw2:=hw1.symm;subst hw2)|(go_at_call 91;refine l2.mono ?_;rintro e w1 ⟨rfl,hw1⟩;have hw2:=hw1.symm;subst hw2));refine l3.mono ?_;rintro e y3 ⟨rfl,h3,k3⟩;have sj:Hid (Wr y3 wb L s (x.seq [51,103])):=HX0.o.step k3 h3;have Gv:Hid _:=k3;obtain⟨xs,hxs⟩:∃xs,xs=x.seq [51,103]:=⟨_,rfl⟩;rw[←hxs]at sj pz n3;clear h3 k3 l3 l1 l2 c0 hfr HX0 hxs;go_wp2_with fail;go_loopw [19] (fun j wr=>∃k:Nat,k≤s.aa∧j= .int .i64 k∧Hid (Wr wr wb L s (WS.m_ xs 0 (s.tabs.take k)))∧Hid (Wk wb w wr)) (fun j _=>s.aa-(intOf j).toNat)
  case atStart=>exact⟨0,jy _,rfl,sj,Gv⟩
  case round=>
   clear sj Gv;obtain⟨k,hk,rfl,HX,HK⟩:=hrel;have hlen:(WS.m_ xs 0 (s.tabs.take k)).tx.length≤200000:=by
    have h1:=BN (s.tabs.take k) xs 0;have h2:(s.tabs.take k).length≤40:=by rw[jJ,QC.o];omega
    omega
   by_cases hkc:k<s.aa
   ·have UY:(k:Int)<(s.aa:Int):=by omega
    have vk:IntKind.i64.wrap ((k:Int)+1)=(k:Int)+1:=bV _ (by omega);have c0:=HX.o.c0;have l4:=Ga L s k hkc wr HX.o.te HI.o;have Wh:s.tabs[k]? =some (s.tabs.getD k false):=by
     have:k<s.tabs.length:=by rw[QC.o];exact hkc
     simp[List.getD,gK this]
    have HE:Hid (WS.m_ xs 0 (s.tabs.take (k+1))=(WS.m_ xs 0 (s.tabs.take k)).Dq k (s.tabs.getD k false)):=by have:=Ja s.tabs xs 0 k _ Wh;rw[lG]at this;exact this
    clear Wh;generalize s.tabs.getD k false=b at*;obtain⟨xk,hxk⟩:∃xk,xk=WS.m_ xs 0 (s.tabs.take k):=⟨_,rfl⟩;rw[←hxk]at HX HE hlen;clear hxk;cases b with
    |false=>
     go_wp2_with fail;refine l4.mono ?_;rintro e w2 ⟨rfl,hw2⟩;obtain rfl:=hw2.symm;go_wp2_with fail;go_roundw
     case rel=>exact⟨k+1,by omega,by go_num,by rw[HE.o];exact HX,HK⟩
     case measure=>simp[intOf];omega
    |true=>
     have l5:=qQ (k+1) (by omega) wr;rw[show(((k+1:Nat)):Int)=(k:Int)+1 by omega]at l5;have zd:=j6 ((k:Int)+1);have l6:=dM wb L.tb xk (pJ ((k:Int)+1)++{data:=#[71]}) wr HX.o.wr (by omega) (by rw[yg];show(pJ ((k:Int)+1)).size+1≤_;omega);rw[iy,rO (by omega),show bl ({data:=#[71]}:ByteArray)=[71] by rfl]at l6;have n6:=iJ xk (lg ((k:Int)+1)++[71]);have nd:=kS ((k:Int)+1);rw[lQ]at n6;simp only[fB,dH]at n6;have HE2:Hid (WS.m_ xs 0 (s.tabs.take (k+1))=(xk.seq (lg ((k:Int)+1)++[71])).put [27,72]):=HE.o.trans rfl;generalize pJ ((k:Int)+1)=D at*;go_wp2_with fail;refine l4.mono ?_;rintro e w2 ⟨rfl,hw2⟩;obtain rfl:=hw2.symm;go_wp2_with fail;refine l5.mono ?_;rintro e w2 ⟨rfl,hw2⟩;obtain rfl:=hw2.symm;go_wp2_with fail;refine l6.mono ?_;rintro e y7 ⟨rfl,h7,k7⟩;have HX7:Hid (Wr y7 wb L s (xk.seq (lg ((k:Int)+1)++[71]))):=HX.o.step k7 h7;have HK7:Hid (Wk wb w y7):=HK.o.trans k7;have l8:=av wb L.tb (xk.seq (lg ((k:Int)+1)++[71])) {data:=#[27,72]} y7 h7 (by omega) (by decide);rw[dG _ (show bl ({data:=#[27,72]}:ByteArray)=[27,72] by rfl), ←HE2.o]at l8;clear h7 k7 l6 l5 l4 c0 HX HK;go_wp2_with fail;refine l8.mono ?_;rintro e y8 ⟨⟨v8,rfl⟩,h8,k8⟩;have HX8:Hid (Wr y8 wb L s (WS.m_ xs 0 (s.tabs.take (k+1)))):=HX7.o.step k8 h8;have HK8:Hid (Wk wb w y8):=HK7.o.trans k8;clear h8 k8 l8;go_wp2_with fail;go_roundw
     case rel=>exact⟨k+1,by omega,by go_num,HX8,HK8⟩
     case measure=>simp[intOf];omega
   ·have UY:¬(k:Int)<(s.aa:Int):=by omega
    have hke:s.tabs.take k=s.tabs:=sG (by rw[QC.o];omega);rw[hke]at HX;have HF:Hid (eB wr wb L.tb (x.tabs s)):=by rw[pz.o];exact HX.o.wr
    clear hke;go_wp2_with fail;go_end0;exact⟨rfl,HF.o,HK.o⟩
theorem Ik(x:WS)(s:TS):(x.region s).tx.length≤x.tx.length+8:=by
 unfold WS.region;split
 ·have h1:=kS (s.top+1);have h2:=kS (s.bottom+1);rw[iJ,lQ];unfold zh;simp only[lQ,fB,dH];omega
 ·omega
theorem mV{y:World}{nb:Nat}{s:TS}(h:y.heap[nb]? =some (.cells (M5 s).toArray 127 (0,0))):
 y.cell? ⟨nb,12,none⟩=some (.int .i64 s.top)∧y.cell? ⟨nb,13,none⟩=some (.int .i64 s.bottom)∧y.cell? ⟨nb,14,none⟩=some (.bool s.wrap)∧y.cell? ⟨nb,15,none⟩=some (.bool s.insert)∧y.cell? ⟨nb,16,none⟩=some (.int .i64 s.shown):=
 ⟨(dJ _ _ _ _ _ _ h).trans rfl,(dJ _ _ _ _ _ _ h).trans rfl,(dJ _ _ _ _ _ _ h).trans rfl,(dJ _ _ _ _ _ _ h).trans rfl,(dJ _ _ _ _ _ _ h).trans rfl⟩
theorem LW(wb:Nat)(L:Lay)(s:TS)(hI:s.Inv)(x:WS)(w:World)(h:Wr w wb L s x)(hx:x.tx.length≤200000):
 Calls prog 51 #[.pointer (some ⟨wb,0,none⟩)] w fun e w'=>e= .returned (.tuple #[])∧eB w' wb L.tb (x.region s)∧Wk wb w w':=by
 have hr1:=hI.r1;have hr2:=hI.r2;obtain⟨tp,htp⟩:∃tp:Nat,s.top=(tp:Int):=⟨s.top.toNat,by have:=hI.gN;omega⟩;obtain⟨bt,hbt⟩:∃bt:Nat,s.bottom=(bt:Int):=⟨s.bottom.toNat,by have:=hI.gN;have:=hI.tb;omega⟩;have hbl:bt<s.rows:=by have:=hI.bot;omega
 have htl:tp≤bt:=by have:=hI.tb;omega
 have HI:Hid _:=hI;have HT:Hid _:=htp;have HB:Hid _:=hbt;clear hI htp hbt;have c0:=h.c0;have hlt:=h.lt;have l1:=rX L s w h.te;have HX0:Hid _:=h;clear h;go_enter func51,ntmps51;go_wp2_with fail;refine l1.mono ?_;rintro e x1 ⟨rfl,q1⟩;go_wp2_with (refine bY _ rfl 127 (.tmp 2) (.tmp 9) rfl x1.heap.size [.int .i64 0,.int .i64 0,.bool false,.bool false,.bool false,.bool false,.int .i64 0,.int .i64 0,.int .i64 0,.int .i64 0,.int .i64 0,.bool false,.int .i64 0,.int .i64 0,.bool false,.bool false,.int .i64 0] (M5 s) rfl _ rfl rfl 127 (bJ _ _) rfl vN (x_ s) ?_);intro y1 g1 k1 z1;have hq1:w.heap.size≤x1.heap.size:=q1.size;have B1:Below w.heap.size w y1:=(q1.nI.alloc q1.size (.cells [.int .i64 0,.int .i64 0,.bool false,.bool false,.bool false,.bool false,.int .i64 0,.int .i64 0,.int .i64 0,.int .i64 0,.int .i64 0,.bool false,.int .i64 0,.int .i64 0,.bool false,.bool false,.int .i64 0].toArray 127)).trans (k1.below (by simp;omega) (fun k hk e=>by omega));have si:Hid (Wr y1 wb L s x):=HX0.o.keep B1;have DD:Hid (Wk wb w y1):=Wk.of_below B1 (iH hlt);obtain⟨nb,hnb⟩:∃nb,nb=x1.heap.size:=⟨_,rfl⟩;rw[←hnb];rw[←hnb]at g1;have hwn:wb<nb:=by omega
 have GD:Hid _:=g1;clear g1 k1 z1 q1 B1 HX0 c0 l1 hnb;have c1:=si.o.c0;have cT:=(mV GD.o).1;have cB:=(mV GD.o).2.1;rw[HT.o]at cT;rw[HB.o]at cB;have l2:=o5 L s y1 si.o.te HI.o;have l3:=EZ tp bt (by omega) (by omega) y1;have zp:=zl (tp:Int) (bt:Int);have l4:=dM wb L.tb x (oP (tp:Int) (bt:Int)++{data:=#[114]}) y1 si.o.wr (by omega) (by rw[yg];show(oP (tp:Int) (bt:Int)).size+1≤_;omega);rw[iy,EY (by omega) (by omega),show bl ({data:=#[114]}:ByteArray)=[114] by kernel_rfl]at l4;have v1:IntKind.i64.wrap ((s.rows:Int)-1)=(s.rows:Int)-1:=bV _ (by omega);generalize oP (tp:Int) (bt:Int)=D at*;by_cases ht:tp=0
 ·have t0:((tp:Int) != 0)=false:=by simp;omega
  by_cases hb:bt=s.rows-1
  ·have b0:((bt:Int) != (s.rows:Int)-1)=false:=by simp;omega
   have pz:Hid (x.region s=x):=by show _=_;unfold WS.region;rw[HT.o,HB.o,aG (by omega)]
   clear ht hb;go_wp2_with fail;refine l2.mono ?_;rintro e w2 ⟨rfl,hw2⟩;obtain rfl:=hw2.symm;go_wp2_with fail;go_end0;exact⟨rfl,by rw[pz.o];exact si.o.wr,DD.o⟩
  ·have b0:((bt:Int) != (s.rows:Int)-1)=true:=by simp;omega
   have pz:Hid (x.region s=x.seq (zh (tp:Int) (bt:Int)++[114])):=by show _=_;unfold WS.region;rw[HT.o,HB.o,aS (by omega)]
   clear ht hb;go_wp2_with fail;refine l2.mono ?_;rintro e w2 ⟨rfl,hw2⟩;obtain rfl:=hw2.symm;go_wp2_with fail;refine l3.mono ?_;rintro e w3 ⟨rfl,hw3⟩;obtain rfl:=hw3.symm;go_wp2_with fail;refine l4.mono ?_;rintro e y5 ⟨rfl,h5,k5⟩;have HF:Hid (eB y5 wb L.tb (x.region s)∧Wk wb w y5):=⟨by rw[pz.o];exact h5,DD.o.trans k5⟩;clear h5 k5;go_wp2_with fail;go_end0;exact⟨rfl,HF.o.1,HF.o.2⟩
 ·have t0:((tp:Int) != 0)=true:=by simp;omega
  have pz:Hid (x.region s=x.seq (zh (tp:Int) (bt:Int)++[114])):=by show _=_;unfold WS.region;rw[HT.o,HB.o,aS (by omega)]
  clear ht;go_wp2_with fail;refine l2.mono ?_;rintro e w2 ⟨rfl,hw2⟩;obtain rfl:=hw2.symm;go_wp2_with fail;refine l3.mono ?_;rintro e w3 ⟨rfl,hw3⟩;obtain rfl:=hw3.symm;go_wp2_with fail;refine l4.mono ?_;rintro e y5 ⟨rfl,h5,k5⟩;have HF:Hid (eB y5 wb L.tb (x.region s)∧Wk wb w y5):=⟨by rw[pz.o];exact h5,DD.o.trans k5⟩;clear h5 k5;go_wp2_with fail;go_end0;exact⟨rfl,HF.o.1,HF.o.2⟩
theorem Ro(wb tb:Nat)(x:WS)(w:World)(h:eB w wb tb x):Calls prog 96 #[.pointer (some ⟨wb,1,none⟩)] w fun e w'=>e= .returned (.int .i64 (x.tx.length:Int))∧w'=w:=by
 obtain⟨p,v,h1,h2,h3⟩:=h.ex;obtain⟨ao,nn,cc,rfl,hn⟩:∃ao nn cc,v= .slice ao nn cc∧nn=x.tx.length:=by
  rcases h3.2 with⟨rfl,e⟩|⟨g,cap,cur,rfl,_⟩
  ·exact⟨_,_,_,rfl,e.symm⟩
  ·exact⟨_,_,_,rfl,rfl⟩
 have c2:w.cell? ⟨wb,2,none⟩=some (.slice ao nn cc):=(dJ _ _ _ _ _ _ h1).trans rfl;have HN:Hid _:=hn;clear h h1 h2 h3 hn;go_enter func96,ntmps96;go_wp2_with fail;go_ret;exact⟨by rw[←HN.o];rfl,rfl⟩
theorem FL(wb:Nat)(L:Lay)(s:TS)(x:WS)(w:World)(h:Wr w wb L s x)(hx:x.tx.length≤300000):
 Calls prog 53 #[.pointer (some ⟨wb,0,none⟩)] w fun e w'=>e= .returned (.tuple #[])∧eB w' wb L.tb ((x.xR s).xS s)∧Wk wb w w':=by
 have c0:=h.c0;have hlt:=h.lt;have l1:=rX L s w h.te;have HX0:Hid _:=h;clear h;go_enter func53,ntmps53;go_wp2_with fail;refine l1.mono ?_;rintro e x1 ⟨rfl,q1⟩;go_wp2_with (refine bY _ rfl 127 (.tmp 2) (.tmp 7) rfl x1.heap.size [.int .i64 0,.int .i64 0,.bool false,.bool false,.bool false,.bool false,.int .i64 0,.int .i64 0,.int .i64 0,.int .i64 0,.int .i64 0,.bool false,.int .i64 0,.int .i64 0,.bool false,.bool false,.int .i64 0] (M5 s) rfl _ rfl rfl 127 (bJ _ _) rfl vN (x_ s) ?_);intro y1 g1 k1 z1;have hq1:w.heap.size≤x1.heap.size:=q1.size;have B1:Below w.heap.size w y1:=(q1.nI.alloc q1.size (.cells [.int .i64 0,.int .i64 0,.bool false,.bool false,.bool false,.bool false,.int .i64 0,.int .i64 0,.int .i64 0,.int .i64 0,.int .i64 0,.bool false,.int .i64 0,.int .i64 0,.bool false,.bool false,.int .i64 0].toArray 127)).trans (k1.below (by simp;omega) (fun k hk e=>by omega));have si:Hid (Wr y1 wb L s x):=HX0.o.keep B1;have DD:Hid (Wk wb w y1):=Wk.of_below B1 (iH hlt);obtain⟨nb,hnb⟩:∃nb,nb=x1.heap.size:=⟨_,rfl⟩;rw[←hnb];rw[←hnb]at g1;have hwn:wb<nb:=by omega
 have GD:Hid _:=g1;clear g1 k1 z1 q1 B1 HX0 c0 l1 hnb;have cI:=(mV GD.o).2.2.2.1;have cW:=(mV GD.o).2.2.1;cases hbi:s.insert with
 |false=>
  rw[hbi]at cI;cases hbw:s.wrap with
  |true=>
   rw[hbw]at cW;have pz:Hid ((x.xR s).xS s=x):=by show _=_;unfold WS.xS WS.xR;rw[hbi,hbw];rfl
   clear hbi hbw;go_wp2_with fail;go_end0;exact⟨rfl,by rw[pz.o];exact si.o.wr,DD.o⟩
  |false=>
   rw[hbw]at cW;have pz:Hid ((x.xR s).xS s=x.seq [63,55,108]):=by show _=_;unfold WS.xS WS.xR;rw[hbi,hbw];rfl
   have l3:=dM wb L.tb x {data:=#[63,55,108]} y1 si.o.wr (by omega) (by decide);rw[show bl ({data:=#[63,55,108]}:ByteArray)=[63,55,108] by rfl, ←pz.o]at l3;clear hbi hbw;go_wp2_with fail;refine l3.mono ?_;rintro e y3 ⟨rfl,h3,k3⟩;have HF:Hid (eB y3 wb L.tb ((x.xR s).xS s)∧Wk wb w y3):=⟨h3,DD.o.trans k3⟩;clear h3 k3;go_wp2_with fail;go_end0;exact⟨rfl,HF.o.1,HF.o.2⟩
 |true=>
  rw[hbi]at cI;have l2:=dM wb L.tb x {data:=#[52,104]} y1 si.o.wr (by omega) (by decide);rw[show bl ({data:=#[52,104]}:ByteArray)=[52,104] by rfl]at l2;have n2:=iJ x [52,104];simp only[fB,dH]at n2;have HBI:Hid _:=hbi;clear hbi cW;go_wp2_with fail;refine l2.mono ?_;rintro e y2 ⟨rfl,h2,k2⟩;have HG2:Hid (y2.heap[nb]? =some (.cells (M5 s).toArray 127 (0,0))):=k2.at GD.o (by omega) (by decide);have Gu:Hid (Wk wb w y2):=DD.o.trans k2;have cW:=(mV HG2.o).2.2.1;have HW2:Hid _:=h2;have l3:=dM wb L.tb (x.seq [52,104]) {data:=#[63,55,108]} y2 h2 (by omega) (by decide);rw[show bl ({data:=#[63,55,108]}:ByteArray)=[63,55,108] by rfl]at l3;clear h2 k2 l2 cI;cases hbw:s.wrap with
  |true=>
   rw[hbw]at cW;have pz:Hid ((x.xR s).xS s=x.seq [52,104]):=by show _=_;unfold WS.xS WS.xR;rw[HBI.o,hbw];rfl
   clear hbw;go_wp2_with fail;go_end0;exact⟨rfl,by rw[pz.o];exact HW2.o,Gu.o⟩
  |false=>
   rw[hbw]at cW;have pz:Hid ((x.xR s).xS s=(x.seq [52,104]).seq [63,55,108]):=by show _=_;unfold WS.xS WS.xR;rw[HBI.o,hbw];rfl
   rw[←pz.o]at l3;clear hbw;go_wp2_with fail;refine l3.mono ?_;rintro e y3 ⟨rfl,h3,k3⟩;have HF:Hid (eB y3 wb L.tb ((x.xR s).xS s)∧Wk wb w y3):=⟨h3,Gu.o.trans k3⟩;clear h3 k3;go_wp2_with fail;go_end0;exact⟨rfl,HF.o.1,HF.o.2⟩
structure DW (s:TS):Prop where
 v:GL s s.spot
 o:s.origin=true→s.top≤s.row
theorem KW(wb:Nat)(L:Lay)(s:TS)(hI:s.Inv)(hO:sP s)(hC:DW s)(x:WS)(w:World)(h:Wr w wb L s x)(hx:x.tx.length≤300000):
 Calls prog 52 #[.pointer (some ⟨wb,0,none⟩)] w fun e w'=>e= .returned (.tuple #[])∧eB w' wb L.tb (x.jq s)∧Wk wb w w':=by
 have HI:Hid _:=hI;have HO:Hid _:=hO;have HC:Hid _:=hC;clear hI hO hC;have c0:=h.c0;have hlt:=h.lt;have l1:=rX L s w h.te;have HX0:Hid _:=h;clear h;go_enter func52,ntmps52;go_wp2_with fail;refine l1.mono ?_;rintro e x1 ⟨rfl,q1⟩;go_wp2_with (refine bY _ rfl 127 (.tmp 2) (.tmp 7) rfl x1.heap.size [.int .i64 0,.int .i64 0,.bool false,.bool false,.bool false,.bool false,.int .i64 0,.int .i64 0,.int .i64 0,.int .i64 0,.int .i64 0,.bool false,.int .i64 0,.int .i64 0,.bool false,.bool false,.int .i64 0] (M5 s) rfl _ rfl rfl 127 (bJ _ _) rfl vN (x_ s) ?_);intro y1 g1 k1 z1;have hq1:w.heap.size≤x1.heap.size:=q1.size;have B1:Below w.heap.size w y1:=(q1.nI.alloc q1.size (.cells [.int .i64 0,.int .i64 0,.bool false,.bool false,.bool false,.bool false,.int .i64 0,.int .i64 0,.int .i64 0,.int .i64 0,.int .i64 0,.bool false,.int .i64 0,.int .i64 0,.bool false,.bool false,.int .i64 0].toArray 127)).trans (k1.below (by simp;omega) (fun k hk e=>by omega));have si:Hid (Wr y1 wb L s x):=HX0.o.keep B1;have DD:Hid (Wk wb w y1):=Wk.of_below B1 (iH hlt);obtain⟨nb,hnb⟩:∃nb,nb=x1.heap.size:=⟨_,rfl⟩;rw[←hnb];rw[←hnb]at g1;have hwn:wb<nb:=by omega
 have GD:Hid _:=g1;clear g1 k1 z1 q1 B1 HX0 c0 l1 hnb;have HR:Hid (y1.rangeAt nb 0 (aN s.spot)):=jO GD.o 0 _ rfl;have cS:=(mV GD.o).2.2.2.2;have cT:=(mV GD.o).1;have l2:=Ro wb L.tb x y1 si.o.wr;obtain⟨⟨pr0,pr1⟩,⟨pc0,pc1⟩,hfit⟩:=HC.o.v;have hr2:=HI.o.r2;have hto:=HC.o.o;have ht0:=HI.o.gN;have HFI:Hid _:=hfit;obtain⟨n,hn,hsn,Y6⟩:∃n:Nat,n<2∧s.shown=(n:Int)∧s.aj n=s.cur:=by
  rcases HI.o.sh with h|h
  ·exact⟨0,by omega,h,by unfold TS.cur TS.aj;rw[aS h];rfl⟩
  ·exact⟨1,by omega,h,(aG (by omega:¬s.shown=0):(if s.shown=0 then s.s0 else s.s1)=s.s1).symm⟩
 rw[hsn]at cS;have hsr:s.spot.row=s.row:=rfl;have hso:s.spot.origin=s.origin:=rfl;obtain⟨r,hr,acw⟩:∃r:Nat,(if s.spot.origin then s.spot.row-s.top else s.spot.row)=(r:Int)∧r<90:=by
  rw[hso];cases ho:s.origin with
  |true=>have:=hto ho;exact⟨(s.spot.row-s.top).toNat,by rw[aS rfl];omega,by omega⟩
  |false=>exact⟨s.spot.row.toNat,by rw[aG (by decide)];omega,by omega⟩
 have l3:=BQ wb L s HI.o HO.o.c n s.spot.row.toNat s.spot.col.toNat r s.top hn (by omega) (by omega) acw s.spot (by omega) (by omega) hfit.p hfit.f hfit.sc hfit.u hr x y1 si.o (by omega);rw[Y6]at l3;have V6:Hid (∀c:Prop,c=(s.spot=je∧x.tx.length=0)→(c→x.jq s=x)∧(¬c→x.jq s=x.aP s.cur s.spot s.top)):=by rintro c rfl;exact⟨fun h=>by unfold WS.jq;rw[aS h],fun h=>by unfold WS.jq;rw[aG h]⟩
 clear pr0 pr1 pc0 pc1 hfit hto ht0 hsn Y6 hsr hso hr hn;by_cases hp0:s.spot=je
 ·have HD:Hid (decide (s.spot=je)=true):=mE hp0;by_cases hl0:x.tx.length=0
  ·have pz:Hid (x.jq s=x):=(V6.o _ rfl).1 ⟨hp0,hl0⟩;have hz:((x.tx.length:Int)==0)=true:=by simp[hl0]
   clear hp0 hl0 l3;go_wp2_with (first|(refine qD rfl 125 (.tmp 8) rfl nb 0 rfl (aN s.spot) _ HR.o underlying125 rfl bL ?_)|(refine kD rfl (.tmp 9) (.tmp 10) rfl s.spot je rfl _ rfl rfl true HD.o ?_));refine l2.mono ?_;rintro e w2 ⟨rfl,hw2⟩;obtain rfl:=hw2.symm;go_wp2_with fail;refine gL (lF rfl _ _ _) rfl ?_;exact⟨rfl,by rw[pz.o];exact si.o.wr,DD.o⟩
  ·have pz:Hid (x.jq s=x.aP s.cur s.spot s.top):=(V6.o _ rfl).2 (fun h=>hl0 h.2);have hz:((x.tx.length:Int)==0)=false:=by
    have:((x.tx.length:Int)≠0):=by omega
    exact beq_false_of_ne this
   rw[←pz.o]at l3;clear hp0 hl0;go_wp2_with (first|(refine qD rfl 125 (.tmp 8) rfl nb 0 rfl (aN s.spot) _ HR.o underlying125 rfl bL ?_)|(refine kD rfl (.tmp 9) (.tmp 10) rfl s.spot je rfl _ rfl rfl true HD.o ?_));refine l2.mono ?_;rintro e w2 ⟨rfl,hw2⟩;obtain rfl:=hw2.symm;go_wp2_with (refine qD rfl 125 (.tmp 22) rfl nb 0 rfl (aN s.spot) _ HR.o underlying125 rfl bL ?_);refine l3.mono ?_;rintro e y3 ⟨rfl,h3,k3⟩;have HF:Hid (eB y3 wb L.tb (x.jq s)∧Wk wb w y3):=⟨h3,DD.o.trans k3⟩;clear h3 k3;go_wp2_with fail;go_end0;exact⟨rfl,HF.o.1,HF.o.2⟩
 ·have HD:Hid (decide (s.spot=je)=false):=mF hp0;have pz:Hid (x.jq s=x.aP s.cur s.spot s.top):=(V6.o _ rfl).2 (fun h=>hp0 h.1);rw[←pz.o]at l3;clear hp0 l2;go_wp2_with (first|(refine qD rfl 125 (.tmp 8) rfl nb 0 rfl (aN s.spot) _ HR.o underlying125 rfl bL ?_)|(refine kD rfl (.tmp 9) (.tmp 10) rfl s.spot je rfl _ rfl rfl false HD.o ?_)|(refine qD rfl 125 (.tmp 22) rfl nb 0 rfl (aN s.spot) _ HR.o underlying125 rfl bL ?_));refine l3.mono ?_;rintro e y3 ⟨rfl,h3,k3⟩;have HF:Hid (eB y3 wb L.tb (x.jq s)∧Wk wb w y3):=⟨h3,DD.o.trans k3⟩;clear h3 k3;go_wp2_with fail;go_end0;exact⟨rfl,HF.o.1,HF.o.2⟩
end Go.Proofs.YtheibfffilomcabGreatDoor
