import Derived.Test.YtheibfffilomcaaGreatDoorTmaU
import Derived.Test.YtheibfffilomcaaGreatDoorVybU
import Derived.Test.YtheibfffilomcaaGreatDoorEqcU
import Derived.ChangeKeysEq
set_option linter.all false
set_option maxRecDepth 100000
set_option maxHeartbeats 2500000
namespace Go.Proofs.YtheibfffilomcaaGreatDoor
open Go.RowKit Go.Proofs.Tryz
variable {Q:Exit→Act→World→Prop} {ds:List Deferred} {u:World} {K:Act→World→Prop}
theorem j6{ops:Array Oper}{S:World→Prop}{i d:Nat}{oi:Oper}{v:Value}{fuel:Nat}{listed:Array Bool}{l:List Value}{w:World}(hi:ops[i]? =some oi)(hd:oi.dst=some d)(hs:Region.noSelect ops=true)(hf:Region.free .any ops listed i=true)(hr:(Region.ready .any ops listed).contains i=true)(hQ:∀c a w,Q (.panic c) (a.put oi.dst v) w→Q (.panic c) a w)(hy:YieldsIf prog ops S oi v ⟨l.toArray,ds⟩)(hS:S w)(h:wpAnyH prog .any ops Q S fuel (listed.setIfInBounds i true) ⟨(l.set d v).toArray,ds⟩ w):wpAnyH prog .any ops Q S (fuel+1) listed ⟨l.toArray,ds⟩ w:=by
 refine wpAnyH_take hi hs hf hr hQ hy hS ?_;rw[hd];simpa[Act.put]using h
theorem pG{o:Oper}{l:List Value}(d:Nat)(ho:o.op= .alloc 117)(hd:o.dst=some d)(h:∀g u',g=u.heap.size→u'.heap[g]? =some (.cells (mA 0 0 (.slice none 0 0)) 117 (0,0))→Below u.heap.size u u'→K ⟨(l.set d (.pointer (some ⟨g,0,none⟩))).toArray,ds⟩ u'):Oper.wp prog o ⟨l.toArray,ds⟩ u K Q:=by
 refine Lc ho fun g u' h1 h2 h3=>?_;rw[hd];simpa[Act.put]using h g u' h1 h2 h3
theorem pF{o:Oper}{l:List Value}(d:Nat)(ho:o.op= .alloc 46)(hd:o.dst=some d)(h:∀g u',g=u.heap.size→u'.heap[g]? =some (.cells (aA aO) 46 (0,0))→Below u.heap.size u u'→K ⟨(l.set d (.pointer (some ⟨g,0,none⟩))).toArray,ds⟩ u'):Oper.wp prog o ⟨l.toArray,ds⟩ u K Q:=by
 refine Lb ho fun g u' h1 h2 h3=>?_;rw[hd];simpa[Act.put]using h g u' h1 h2 h3
theorem qW{o:Oper}{l:List Value}(i j d:Nat)(ho:o.op= .call {callee:=.value (.func 59),args:=#[.tmp i,.tmp j],argTypes:=#[117,3]})(hd:o.dst=some d)(p q:Value)(hx:Act.eval ⟨l.toArray,ds⟩ (.tmp i)=p)(hy:Act.eval ⟨l.toArray,ds⟩ (.tmp j)=q)(R:Value→World→Prop)(hc:Calls prog 59 #[p,q] u fun e w'=>∃v,e= .returned v∧R v w')(h:∀v w',R v w'→K ⟨(l.set d v).toArray,ds⟩ w'):Oper.wp prog o ⟨l.toArray,ds⟩ u K Q:=by
 refine OD i j ho p q hx hy R hc fun v w' hr=>?_;rw[hd];simpa[Act.put]using h v w' hr
theorem Rt(ao:Option Addr)(n cap:Nat)(D:List Int)(w:World)(hn:D.length=n)(hn2:n≤3000000)(hD:∀x∈D,0≤x∧x≤10000000)(hsl:lI w ao D):
 Calls prog 28 #[.slice ao n cap] w fun e w'=>∃v,e= .returned v∧uJ w' w.heap.size v (RM.zero.evs D).2∧Below w.heap.size w w':=by
 have RX0:RX w 0 0 (.slice none 0 0) (.slice none 0 0) [] none [] (w.alloc (.cells (mA 0 0 (.slice none 0 0)) 117)):=
  ⟨bV _ _,AU _ _ _ _,lI.nil _ _,(fun _ _ e=>by cases e),(dU _ _).alloc (bN _) _⟩
 go_enter func28,ntmps28;go_wp2_with fail;go_loopw [3,5] (fun v i wr=>∃(k:Nat) (M K:Int) (L:List Int) (a1:Option Addr) (c1:Nat) (E:List (List Int)),k≤n∧i= .int .i64 k∧Hid (RM.zero.evs (D.take k)=(⟨M,K,L⟩,E))∧L.length≤c1∧RX w M K (.slice a1 L.length c1) v E a1 L wr) (fun _ i _=>n-(intOf i).toNat)
 case atStart=>exact⟨0,0,0,[],none,0,[],dx _,rfl,rfl,bN _,RX0⟩
 case round=>
  clear RX0;obtain⟨k,M,K,L,a1,c1,E,hk,rfl,H,hc1,R⟩:=hrel;have hok:=Wl RM.zero 0 (fun x hx=>by simp[RM.zero]at hx) (bN _) (D.take k) (fun c hc=>hD c (AL hc));rw[H.o]at hok;obtain⟨hLb,hLn,QJ,hEn⟩:=hok;dsimp only at hLb hLn QJ hEn;have htk:(D.take k).length=k:=by rw[kg];omega
  rw[htk]at hLn hEn;by_cases hlt:k<n
  ·have hkl:k<D.length:=by omega
   obtain⟨c,hcD⟩:∃c,D[k]=c:=⟨_,rfl⟩;have H2:RM.zero.evs (D.take (k+1))=((RM.take ⟨M,K,L⟩ c).1,E++(if(RM.take ⟨M,K,L⟩ c).2.getD 0 0≠0 then[(RM.take ⟨M,K,L⟩ c).2]else[])):=by rw[o7 hkl,Vk,H.o,hcD]
   obtain⟨bb,oo,rfl,hblt,hcell⟩:=hsl k c (by rw[eG hkl,hcD]);have gq:=Rw ⟨M,K,L⟩ c;have ES:=fun u hs=>NT M K L a1 L.length c1 c u rfl hc1 (by omega) hLb hs;unfold kL at ES;generalize RM.take ⟨M,K,L⟩ c=X at*;obtain⟨⟨M',K',L'⟩,EV⟩:=X;dsimp only at ES gq H2;have hcall:∀u,lI u a1 L→Calls prog 59 #[.agg (mA M K (.slice a1 L.length c1)),.int .i64 c] u fun e w'=>∃v,e= .returned v∧∃a2 n2 c2,v= .tuple #[.agg (mA M' K' (.slice a2 n2 c2)),.agg (aA EV)]∧n2=L'.length∧n2≤c2∧lI w' a2 L'∧(∀b o,a2=some ⟨b,o,none⟩→a2=a1∨(u.heap.size≤b∧b<w'.heap.size))∧Below u.heap.size u w':=fun u hs=>(ES u hs).mono fun e w' ⟨a2,n2,c2,he,h⟩=>⟨_,he,a2,n2,c2,rfl,h⟩;have H2':Hid _:=H2;have SS:∀{v':Value} {E':List (List Int)} {a':Option Addr} {L0:List Int} {u:World},RX w M K (.slice a1 L.length c1) v' E' a' L0 u→u.heap[w.heap.size]? =some (.cells (mA M K (.slice a1 L.length c1)) 117 (0,0))∧u.cell? ⟨bb,oo+k,none⟩=some (.int .i64 c):=fun R=>⟨R.Ap,(R.iB.cell hblt).trans hcell⟩;have ik:(k:Int)<(n:Int):=by omega
   clear ES H2 H hcD QJ hLb htk;have H2:=H2';clear H2';go_wp2_with fail;have R0:=R.drew;clear R;refine wp_region_held (S:=fun x=>x.heap[w.heap.size]? =some (.cells (mA M K (.slice a1 L.length c1)) 117 (0,0))∧x.cell? ⟨bb,oo+k,none⟩=some (.int .i64 c)) mixed ?_;refine j6 (i:=0) (d:=16) (v:=.agg (mA M K (.slice a1 L.length c1))) rfl rfl (by kernel_rfl) (by kernel_rfl) (by kernel_rfl) (fun _ _ _ h=>h) (yieldsIf_load_mid (by rfl) 117 (.tmp 4) rfl w.heap.size 0 rfl [.int .i64 M,.int .i64 K,.slice a1 L.length c1] _ (fun x h j v hv=>by rw[bG _ _ _ _ _ _ h.1,lH];simpa[mA]using hv) underlying117 rfl tT) (SS R0) ?_;simp only[fD,fP];refine j6 (i:=1) (d:=17) (v:=.slice (some ⟨bb,oo,none⟩) n cap) rfl rfl (by kernel_rfl) (by kernel_rfl) (by kernel_rfl) (fun _ _ _ h=>h) (Or.inl ⟨by rfl,by intro x gY;go_simp;try rfl⟩) (SS R0) ?_;simp only[fD,fP];refine j6 (i:=2) (d:=18) (v:=.int .i64 k) rfl rfl (by kernel_rfl) (by kernel_rfl) (by kernel_rfl) (fun _ _ _ h=>h) (Or.inl ⟨by rfl,by intro x gY;go_simp;try rfl⟩) (SS R0) ?_;simp only[fD,fP];refine j6 (i:=3) (d:=19) (v:=.pointer (some ⟨bb,oo+k,none⟩)) rfl rfl (by kernel_rfl) (by kernel_rfl) (by kernel_rfl) (fun _ _ _ h=>h) (Or.inl ⟨by rfl,by intro x gY;go_simp;try rfl⟩) (SS R0) ?_;simp only[fD,fP];refine j6 (i:=4) (d:=20) (v:=.int .i64 c) rfl rfl (by kernel_rfl) (by kernel_rfl) (by kernel_rfl) (fun _ _ _ h=>h) (Or.inl ⟨by rfl,by intro x gY;have UQ:=gY.2;go_simp;try rfl⟩) (SS R0) ?_;simp only[fD,fP];refine wpAnyH_all (rs:=[5,9,10]) (by kernel_rfl) (by simp) ?_;intro i hi;simp only[kK,pX,pY]at hi;rcases hi with rfl|rfl|rfl
   ·refine wpOp_step rfl fun Kq qN=>?_;rw[ak (by rfl)];refine qW 16 20 21 rfl rfl _ _ rfl rfl _ (hcall _ R0.sl) ?_;rintro v2 Uc ⟨a2,n2,c2,rfl,rfl,hc2,sl2,hnew,bu⟩;have Te:=R0.body bu sl2 hnew;refine qN _ _ ⟨SS Te,?_⟩;clear bu hnew sl2 R0 qN;simp only[fD,fP];refine j6 (i:=6) (d:=15) (v:=.tuple #[.agg (mA M' K' (.slice a2 L'.length c2)),.agg (aA EV)]) rfl rfl (by kernel_rfl) (by kernel_rfl) (by kernel_rfl) (fun _ _ _ h=>h) (Or.inl ⟨by rfl,by intro x gY;go_simp;try rfl⟩) (SS Te) ?_;simp only[fD,fP];refine j6 (i:=7) (d:=22) (v:=.agg (mA M' K' (.slice a2 L'.length c2))) rfl rfl (by kernel_rfl) (by kernel_rfl) (by kernel_rfl) (fun _ _ _ h=>h) (Or.inl ⟨by rfl,by intro x gY;go_simp;try rfl⟩) (SS Te) ?_;simp only[fD,fP];refine j6 (i:=8) (d:=23) (v:=.agg (aA EV)) rfl rfl (by kernel_rfl) (by kernel_rfl) (by kernel_rfl) (fun _ _ _ h=>h) (Or.inl ⟨by rfl,by intro x gY;go_simp;try rfl⟩) (SS Te) ?_;simp only[fD,fP];refine wpAnyH_all (rs:=[9,10]) (by kernel_rfl) (by simp) ?_;intro i hi;simp only[kK,pX,pY]at hi;rcases hi with rfl|rfl
    ·refine wpOp_step rfl fun Kq qN=>?_;rw[ak (by rfl)];refine pG 6 rfl rfl ?_;intro gm Uca hgm om bu;have R2x:=Te.next bu;have NM:=NB.new Te hgm om;refine qN _ _ ⟨SS R2x,?_⟩;clear bu hgm om Te qN;simp only[fD,fP];refine wpAnyH_all (rs:=[10]) (by kernel_rfl) (by simp) ?_;intro i hi;rw[jg]at hi;subst hi;refine wpOp_step rfl fun Kq qN=>?_;rw[ak (by rfl)];refine pF 7 rfl rfl ?_;intro ge aiA hge oe bu;have R3x:=R2x.next bu;have NE:=NB.new R2x hge oe;have Ui:=NM.next bu;refine qN _ _ ⟨SS R3x,?_⟩;clear bu hge oe R2x NM qN;simp only[fD,fP];have hne:gm≠ge:=fun e=>by have q:=Ui.obj;rw[e,NE.obj]at q;cases q
     refine d_ (i:=11) (j:=12) rfl rfl (by kernel_rfl) (by kernel_rfl) (by kernel_rfl) rfl rfl rfl rfl (.tmp 6) (.tmp 22) (.tmp 7) (.tmp 23) rfl rfl gm ge hne rfl rfl (mA M' K' (.slice a2 L'.length c2)) rfl rfl (gu _ _ _ _ _) _ rfl EV rfl gq _ rfl Ui.obj _ rfl NE.obj (fun u' t=>SS (R3x.two t Ui NE)) ?_;intro u3 g1 g2 t;have R3:=R3x.two t Ui NE;have lom:=Ui.lo;have loe:=NE.lo;have Hl:ge<u3.heap.size:=by rw[t.size];exact NE.lt
     clear t Ui NE hne SS;go_wp2_with (first|(refine sO _ rfl (.tmp 6) rfl gm (mA M' K' (.slice a2 L'.length c2)) rfl rfl 117 (0,0) g1 ?_)|(refine wm _ rfl (.tmp 4) (.tmp 24) rfl w.heap.size (mA M K (.slice a1 L.length c1)) (mA M' K' (.slice a2 L'.length c2)) rfl rfl rfl (gu _ _ _ _ _) 117 R3.Ap rfl ?_));intro u4 g4 r4 z4;have R4:=R3.Ny g4 r4;have g24:=(r4.block ge Hl (by simp;omega)).trans g2;have hk0:u4.cell? ⟨ge,0,none⟩=some (.int .i64 (EV.getD 0 0)):=by rw[bG _ _ _ _ _ _ g24];simpa[aA]using jo EV 0 (by omega)
     clear R3 g1 g2 g4 r4 Hl z4;obtain⟨kd,hkd⟩:∃x,x=EV.getD 0 0:=⟨_,rfl⟩;rw[←hkd]at hk0;have H3:=H2.o;rw[←hkd]at H3;clear hkd H2;by_cases hz:kd=0
     ·have H4:Hid (RM.zero.evs (D.take (k+1))=(⟨M',K',L'⟩,E)):=by show _=_;rw[H3,ai (fun h=>h hz),gp]
      have bz:(kd != 0)=false:=by simp[hz]
      clear H3 hz;go_wp2_with fail;go_roundw
      case rel=>exact⟨k+1,M',K',L',a2,c2,E,by omega,by go_num,H4,hc2,R4⟩
      case measure=>simp[intOf];omega
     ·have H4:Hid (RM.zero.evs (D.take (k+1))=(⟨M',K',L'⟩,E++[EV])):=by show _=_;rw[H3,ak hz]
      have bz:(kd != 0)=true:=by simp[hz]
      have hone:∀e∈[EV],e.length=21:=by intro e he;simp at he;rw[he];exact gq
      have FU:=R4.size;have GH:=R4.ev;clear H3 hz;go_wp2_with (first|(refine fA _ rfl (.tmp 7) rfl ge EV rfl gq 46 (0,0) g24 ?_)|(refine zS _ rfl (.tmp 29) rfl EV gq rfl ?_)|(at_builtin;refine vZ u4 rfl _ _ rfl (w.heap.size+1) _ E [EV] _ ?afn hone (by simp) rfl ?afo _ _ ?afp rfl rfl ?afq ?afr ?_))
      try (case afn=>simp)
      try (case afo=>exact GH)
      try (case afp=>rfl)
      try (case afq=>simp;omega)
      try (case afr=>exact FU)
      intro v' w' ev' GQ hblk _;have R5:=R4.app ev' GQ hblk.o;clear R4 GH ev' GQ hblk g24 hk0 FU;go_wp2_with fail;go_roundw
      case rel=>exact⟨k+1,M',K',L',a2,c2,E++[EV],by omega,by go_num,H4,hc2,R5⟩
      case measure=>simp[intOf];omega
    ·refine wpOp_step rfl fun Kq qN=>?_;rw[ak (by rfl)];refine pF 7 rfl rfl ?_;intro ge Ucb hge oe bu;have R4x:=Te.next bu;have NE:=NB.new Te hge oe;refine qN _ _ ⟨SS R4x,?_⟩;clear bu hge oe Te qN;simp only[fD,fP];refine wpAnyH_all (rs:=[9]) (by kernel_rfl) (by simp) ?_;intro i hi;rw[jg]at hi;subst hi;refine wpOp_step rfl fun Kq qN=>?_;rw[ak (by rfl)];refine pG 6 rfl rfl ?_;intro gm aiB hgm om bu;have R5x:=R4x.next bu;have NM:=NB.new R4x hgm om;have Tc:=NE.next bu;refine qN _ _ ⟨SS R5x,?_⟩;clear bu hgm om R4x NE qN;simp only[fD,fP];have hne:gm≠ge:=fun e=>by have q:=NM.obj;rw[e,Tc.obj]at q;cases q
     refine d_ (i:=11) (j:=12) rfl rfl (by kernel_rfl) (by kernel_rfl) (by kernel_rfl) rfl rfl rfl rfl (.tmp 6) (.tmp 22) (.tmp 7) (.tmp 23) rfl rfl gm ge hne rfl rfl (mA M' K' (.slice a2 L'.length c2)) rfl rfl (gu _ _ _ _ _) _ rfl EV rfl gq _ rfl NM.obj _ rfl Tc.obj (fun u' t=>SS (R5x.two t NM Tc)) ?_;intro u3 g1 g2 t;have R3:=R5x.two t NM Tc;have lom:=NM.lo;have loe:=Tc.lo;have Hl:ge<u3.heap.size:=by rw[t.size];exact Tc.lt
     clear t NM Tc hne SS;go_wp2_with (first|(refine sO _ rfl (.tmp 6) rfl gm (mA M' K' (.slice a2 L'.length c2)) rfl rfl 117 (0,0) g1 ?_)|(refine wm _ rfl (.tmp 4) (.tmp 24) rfl w.heap.size (mA M K (.slice a1 L.length c1)) (mA M' K' (.slice a2 L'.length c2)) rfl rfl rfl (gu _ _ _ _ _) 117 R3.Ap rfl ?_));intro u4 g4 r4 z4;have R4:=R3.Ny g4 r4;have g24:=(r4.block ge Hl (by simp;omega)).trans g2;have hk0:u4.cell? ⟨ge,0,none⟩=some (.int .i64 (EV.getD 0 0)):=by rw[bG _ _ _ _ _ _ g24];simpa[aA]using jo EV 0 (by omega)
     clear R3 g1 g2 g4 r4 Hl z4;obtain⟨kd,hkd⟩:∃x,x=EV.getD 0 0:=⟨_,rfl⟩;rw[←hkd]at hk0;have H3:=H2.o;rw[←hkd]at H3;clear hkd H2;by_cases hz:kd=0
     ·have H4:Hid (RM.zero.evs (D.take (k+1))=(⟨M',K',L'⟩,E)):=by show _=_;rw[H3,ai (fun h=>h hz),gp]
      have bz:(kd != 0)=false:=by simp[hz]
      clear H3 hz;go_wp2_with fail;go_roundw
      case rel=>exact⟨k+1,M',K',L',a2,c2,E,by omega,by go_num,H4,hc2,R4⟩
      case measure=>simp[intOf];omega
     ·have H4:Hid (RM.zero.evs (D.take (k+1))=(⟨M',K',L'⟩,E++[EV])):=by show _=_;rw[H3,ak hz]
      have bz:(kd != 0)=true:=by simp[hz]
      have hone:∀e∈[EV],e.length=21:=by intro e he;simp at he;rw[he];exact gq
      have FU:=R4.size;have GH:=R4.ev;clear H3 hz;go_wp2_with (first|(refine fA _ rfl (.tmp 7) rfl ge EV rfl gq 46 (0,0) g24 ?_)|(refine zS _ rfl (.tmp 29) rfl EV gq rfl ?_)|(at_builtin;refine vZ u4 rfl _ _ rfl (w.heap.size+1) _ E [EV] _ ?afs hone (by simp) rfl ?aft _ _ ?afu rfl rfl ?afv ?afw ?_))
      try (case afs=>simp)
      try (case aft=>exact GH)
      try (case afu=>rfl)
      try (case afv=>simp;omega)
      try (case afw=>exact FU)
      intro v' w' ev' GQ hblk _;have R5:=R4.app ev' GQ hblk.o;clear R4 GH ev' GQ hblk g24 hk0 FU;go_wp2_with fail;go_roundw
      case rel=>exact⟨k+1,M',K',L',a2,c2,E++[EV],by omega,by go_num,H4,hc2,R5⟩
      case measure=>simp[intOf];omega
   ·refine wpOp_step rfl fun Kq qN=>?_;rw[ak (by rfl)];refine pG 6 rfl rfl ?_;intro gm Ua hgm om bu;have Xm:=R0.next bu;have NM:=NB.new R0 hgm om;refine qN _ _ ⟨SS Xm,?_⟩;clear bu hgm om R0 qN;simp only[fD,fP];refine wpAnyH_all (rs:=[5,10]) (by kernel_rfl) (by simp) ?_;intro i hi;simp only[kK,pX,pY]at hi;rcases hi with rfl|rfl
    ·refine wpOp_step rfl fun Kq qN=>?_;rw[ak (by rfl)];refine qW 16 20 21 rfl rfl _ _ rfl rfl _ (hcall _ Xm.sl) ?_;rintro v2 Uac ⟨a2,n2,c2,rfl,rfl,hc2,sl2,hnew,bu⟩;have Xn:=Xm.body bu sl2 hnew;have Uj:=NM.body bu hnew;refine qN _ _ ⟨SS Xn,?_⟩;clear bu hnew sl2 Xm NM qN;simp only[fD,fP];refine j6 (i:=6) (d:=15) (v:=.tuple #[.agg (mA M' K' (.slice a2 L'.length c2)),.agg (aA EV)]) rfl rfl (by kernel_rfl) (by kernel_rfl) (by kernel_rfl) (fun _ _ _ h=>h) (Or.inl ⟨by rfl,by intro x gY;go_simp;try rfl⟩) (SS Xn) ?_;simp only[fD,fP];refine j6 (i:=7) (d:=22) (v:=.agg (mA M' K' (.slice a2 L'.length c2))) rfl rfl (by kernel_rfl) (by kernel_rfl) (by kernel_rfl) (fun _ _ _ h=>h) (Or.inl ⟨by rfl,by intro x gY;go_simp;try rfl⟩) (SS Xn) ?_;simp only[fD,fP];refine j6 (i:=8) (d:=23) (v:=.agg (aA EV)) rfl rfl (by kernel_rfl) (by kernel_rfl) (by kernel_rfl) (fun _ _ _ h=>h) (Or.inl ⟨by rfl,by intro x gY;go_simp;try rfl⟩) (SS Xn) ?_;simp only[fD,fP];refine wpAnyH_all (rs:=[10]) (by kernel_rfl) (by simp) ?_;intro i hi;rw[jg]at hi;subst hi;refine wpOp_step rfl fun Kq qN=>?_;rw[ak (by rfl)];refine pF 7 rfl rfl ?_;intro ge aix hge oe bu;have R8x:=Xn.next bu;have NE:=NB.new Xn hge oe;have MI:=Uj.next bu;refine qN _ _ ⟨SS R8x,?_⟩;clear bu hge oe Xn Uj qN;simp only[fD,fP];have hne:gm≠ge:=fun e=>by have q:=MI.obj;rw[e,NE.obj]at q;cases q
     refine d_ (i:=11) (j:=12) rfl rfl (by kernel_rfl) (by kernel_rfl) (by kernel_rfl) rfl rfl rfl rfl (.tmp 6) (.tmp 22) (.tmp 7) (.tmp 23) rfl rfl gm ge hne rfl rfl (mA M' K' (.slice a2 L'.length c2)) rfl rfl (gu _ _ _ _ _) _ rfl EV rfl gq _ rfl MI.obj _ rfl NE.obj (fun u' t=>SS (R8x.two t MI NE)) ?_;intro u3 g1 g2 t;have R3:=R8x.two t MI NE;have lom:=MI.lo;have loe:=NE.lo;have Hl:ge<u3.heap.size:=by rw[t.size];exact NE.lt
     clear t MI NE hne SS;go_wp2_with (first|(refine sO _ rfl (.tmp 6) rfl gm (mA M' K' (.slice a2 L'.length c2)) rfl rfl 117 (0,0) g1 ?_)|(refine wm _ rfl (.tmp 4) (.tmp 24) rfl w.heap.size (mA M K (.slice a1 L.length c1)) (mA M' K' (.slice a2 L'.length c2)) rfl rfl rfl (gu _ _ _ _ _) 117 R3.Ap rfl ?_));intro u4 g4 r4 z4;have R4:=R3.Ny g4 r4;have g24:=(r4.block ge Hl (by simp;omega)).trans g2;have hk0:u4.cell? ⟨ge,0,none⟩=some (.int .i64 (EV.getD 0 0)):=by rw[bG _ _ _ _ _ _ g24];simpa[aA]using jo EV 0 (by omega)
     clear R3 g1 g2 g4 r4 Hl z4;obtain⟨kd,hkd⟩:∃x,x=EV.getD 0 0:=⟨_,rfl⟩;rw[←hkd]at hk0;have H3:=H2.o;rw[←hkd]at H3;clear hkd H2;by_cases hz:kd=0
     ·have H4:Hid (RM.zero.evs (D.take (k+1))=(⟨M',K',L'⟩,E)):=by show _=_;rw[H3,ai (fun h=>h hz),gp]
      have bz:(kd != 0)=false:=by simp[hz]
      clear H3 hz;go_wp2_with fail;go_roundw
      case rel=>exact⟨k+1,M',K',L',a2,c2,E,by omega,by go_num,H4,hc2,R4⟩
      case measure=>simp[intOf];omega
     ·have H4:Hid (RM.zero.evs (D.take (k+1))=(⟨M',K',L'⟩,E++[EV])):=by show _=_;rw[H3,ak hz]
      have bz:(kd != 0)=true:=by simp[hz]
      have hone:∀e∈[EV],e.length=21:=by intro e he;simp at he;rw[he];exact gq
      have FU:=R4.size;have GH:=R4.ev;clear H3 hz;go_wp2_with (first|(refine fA _ rfl (.tmp 7) rfl ge EV rfl gq 46 (0,0) g24 ?_)|(refine zS _ rfl (.tmp 29) rfl EV gq rfl ?_)|(at_builtin;refine vZ u4 rfl _ _ rfl (w.heap.size+1) _ E [EV] _ ?afx hone (by simp) rfl ?afy _ _ ?afz rfl rfl ?afA ?afB ?_))
      try (case afx=>simp)
      try (case afy=>exact GH)
      try (case afz=>rfl)
      try (case afA=>simp;omega)
      try (case afB=>exact FU)
      intro v' w' ev' GQ hblk _;have R5:=R4.app ev' GQ hblk.o;clear R4 GH ev' GQ hblk g24 hk0 FU;go_wp2_with fail;go_roundw
      case rel=>exact⟨k+1,M',K',L',a2,c2,E++[EV],by omega,by go_num,H4,hc2,R5⟩
      case measure=>simp[intOf];omega
    ·refine wpOp_step rfl fun Kq qN=>?_;rw[ak (by rfl)];refine pF 7 rfl rfl ?_;intro ge Uab hge oe bu;have R9x:=Xm.next bu;have NE:=NB.new Xm hge oe;have Ui:=NM.next bu;refine qN _ _ ⟨SS R9x,?_⟩;clear bu hge oe Xm NM qN;simp only[fD,fP];refine wpAnyH_all (rs:=[5]) (by kernel_rfl) (by simp) ?_;intro i hi;rw[jg]at hi;subst hi;refine wpOp_step rfl fun Kq qN=>?_;rw[ak (by rfl)];refine qW 16 20 21 rfl rfl _ _ rfl rfl _ (hcall _ R9x.sl) ?_;rintro v2 aiw ⟨a2,n2,c2,rfl,rfl,hc2,sl2,hnew,bu⟩;have MJ:=R9x.body bu sl2 hnew;have MH:=Ui.body bu hnew;have Td:=NE.body bu hnew;refine qN _ _ ⟨SS MJ,?_⟩;clear bu hnew sl2 R9x Ui NE qN;simp only[fD,fP];refine j6 (i:=6) (d:=15) (v:=.tuple #[.agg (mA M' K' (.slice a2 L'.length c2)),.agg (aA EV)]) rfl rfl (by kernel_rfl) (by kernel_rfl) (by kernel_rfl) (fun _ _ _ h=>h) (Or.inl ⟨by rfl,by intro x gY;go_simp;try rfl⟩) (SS MJ) ?_;simp only[fD,fP];refine j6 (i:=7) (d:=22) (v:=.agg (mA M' K' (.slice a2 L'.length c2))) rfl rfl (by kernel_rfl) (by kernel_rfl) (by kernel_rfl) (fun _ _ _ h=>h) (Or.inl ⟨by rfl,by intro x gY;go_simp;try rfl⟩) (SS MJ) ?_;simp only[fD,fP];refine j6 (i:=8) (d:=23) (v:=.agg (aA EV)) rfl rfl (by kernel_rfl) (by kernel_rfl) (by kernel_rfl) (fun _ _ _ h=>h) (Or.inl ⟨by rfl,by intro x gY;go_simp;try rfl⟩) (SS MJ) ?_;simp only[fD,fP];have hne:gm≠ge:=fun e=>by have q:=MH.obj;rw[e,Td.obj]at q;cases q
     refine d_ (i:=11) (j:=12) rfl rfl (by kernel_rfl) (by kernel_rfl) (by kernel_rfl) rfl rfl rfl rfl (.tmp 6) (.tmp 22) (.tmp 7) (.tmp 23) rfl rfl gm ge hne rfl rfl (mA M' K' (.slice a2 L'.length c2)) rfl rfl (gu _ _ _ _ _) _ rfl EV rfl gq _ rfl MH.obj _ rfl Td.obj (fun u' t=>SS (MJ.two t MH Td)) ?_;intro u3 g1 g2 t;have R3:=MJ.two t MH Td;have lom:=MH.lo;have loe:=Td.lo;have Hl:ge<u3.heap.size:=by rw[t.size];exact Td.lt
     clear t MH Td hne SS;go_wp2_with (first|(refine sO _ rfl (.tmp 6) rfl gm (mA M' K' (.slice a2 L'.length c2)) rfl rfl 117 (0,0) g1 ?_)|(refine wm _ rfl (.tmp 4) (.tmp 24) rfl w.heap.size (mA M K (.slice a1 L.length c1)) (mA M' K' (.slice a2 L'.length c2)) rfl rfl rfl (gu _ _ _ _ _) 117 R3.Ap rfl ?_));intro u4 g4 r4 z4;have R4:=R3.Ny g4 r4;have g24:=(r4.block ge Hl (by simp;omega)).trans g2;have hk0:u4.cell? ⟨ge,0,none⟩=some (.int .i64 (EV.getD 0 0)):=by rw[bG _ _ _ _ _ _ g24];simpa[aA]using jo EV 0 (by omega)
     clear R3 g1 g2 g4 r4 Hl z4;obtain⟨kd,hkd⟩:∃x,x=EV.getD 0 0:=⟨_,rfl⟩;rw[←hkd]at hk0;have H3:=H2.o;rw[←hkd]at H3;clear hkd H2;by_cases hz:kd=0
     ·have H4:Hid (RM.zero.evs (D.take (k+1))=(⟨M',K',L'⟩,E)):=by show _=_;rw[H3,ai (fun h=>h hz),gp]
      have bz:(kd != 0)=false:=by simp[hz]
      clear H3 hz;go_wp2_with fail;go_roundw
      case rel=>exact⟨k+1,M',K',L',a2,c2,E,by omega,by go_num,H4,hc2,R4⟩
      case measure=>simp[intOf];omega
     ·have H4:Hid (RM.zero.evs (D.take (k+1))=(⟨M',K',L'⟩,E++[EV])):=by show _=_;rw[H3,ak hz]
      have bz:(kd != 0)=true:=by simp[hz]
      have hone:∀e∈[EV],e.length=21:=by intro e he;simp at he;rw[he];exact gq
      have FU:=R4.size;have GH:=R4.ev;clear H3 hz;go_wp2_with (first|(refine fA _ rfl (.tmp 7) rfl ge EV rfl gq 46 (0,0) g24 ?_)|(refine zS _ rfl (.tmp 29) rfl EV gq rfl ?_)|(at_builtin;refine vZ u4 rfl _ _ rfl (w.heap.size+1) _ E [EV] _ ?afC hone (by simp) rfl ?afD _ _ ?afE rfl rfl ?afF ?afG ?_))
      try (case afC=>simp)
      try (case afD=>exact GH)
      try (case afE=>rfl)
      try (case afF=>simp;omega)
      try (case afG=>exact FU)
      intro v' w' ev' GQ hblk _;have R5:=R4.app ev' GQ hblk.o;clear R4 GH ev' GQ hblk g24 hk0 FU;go_wp2_with fail;go_roundw
      case rel=>exact⟨k+1,M',K',L',a2,c2,E++[EV],by omega,by go_num,H4,hc2,R5⟩
      case measure=>simp[intOf];omega
   ·refine wpOp_step rfl fun Kq qN=>?_;rw[ak (by rfl)];refine pF 7 rfl rfl ?_;intro ge Ub hge oe bu;have Js:=R0.next bu;have NE:=NB.new R0 hge oe;refine qN _ _ ⟨SS Js,?_⟩;clear bu hge oe R0 qN;simp only[fD,fP];refine wpAnyH_all (rs:=[5,9]) (by kernel_rfl) (by simp) ?_;intro i hi;simp only[kK,pX,pY]at hi;rcases hi with rfl|rfl
    ·refine wpOp_step rfl fun Kq qN=>?_;rw[ak (by rfl)];refine qW 16 20 21 rfl rfl _ _ rfl rfl _ (hcall _ Js.sl) ?_;rintro v2 Ubc ⟨a2,n2,c2,rfl,rfl,hc2,sl2,hnew,bu⟩;have Jt:=Js.body bu sl2 hnew;have Td:=NE.body bu hnew;refine qN _ _ ⟨SS Jt,?_⟩;clear bu hnew sl2 Js NE qN;simp only[fD,fP];refine j6 (i:=6) (d:=15) (v:=.tuple #[.agg (mA M' K' (.slice a2 L'.length c2)),.agg (aA EV)]) rfl rfl (by kernel_rfl) (by kernel_rfl) (by kernel_rfl) (fun _ _ _ h=>h) (Or.inl ⟨by rfl,by intro x gY;go_simp;try rfl⟩) (SS Jt) ?_;simp only[fD,fP];refine j6 (i:=7) (d:=22) (v:=.agg (mA M' K' (.slice a2 L'.length c2))) rfl rfl (by kernel_rfl) (by kernel_rfl) (by kernel_rfl) (fun _ _ _ h=>h) (Or.inl ⟨by rfl,by intro x gY;go_simp;try rfl⟩) (SS Jt) ?_;simp only[fD,fP];refine j6 (i:=8) (d:=23) (v:=.agg (aA EV)) rfl rfl (by kernel_rfl) (by kernel_rfl) (by kernel_rfl) (fun _ _ _ h=>h) (Or.inl ⟨by rfl,by intro x gY;go_simp;try rfl⟩) (SS Jt) ?_;simp only[fD,fP];refine wpAnyH_all (rs:=[9]) (by kernel_rfl) (by simp) ?_;intro i hi;rw[jg]at hi;subst hi;refine wpOp_step rfl fun Kq qN=>?_;rw[ak (by rfl)];refine pG 6 rfl rfl ?_;intro gm aiz hgm om bu;have Xl:=Jt.next bu;have NM:=NB.new Jt hgm om;have Jr:=Td.next bu;refine qN _ _ ⟨SS Xl,?_⟩;clear bu hgm om Jt Td qN;simp only[fD,fP];have hne:gm≠ge:=fun e=>by have q:=NM.obj;rw[e,Jr.obj]at q;cases q
     refine d_ (i:=11) (j:=12) rfl rfl (by kernel_rfl) (by kernel_rfl) (by kernel_rfl) rfl rfl rfl rfl (.tmp 6) (.tmp 22) (.tmp 7) (.tmp 23) rfl rfl gm ge hne rfl rfl (mA M' K' (.slice a2 L'.length c2)) rfl rfl (gu _ _ _ _ _) _ rfl EV rfl gq _ rfl NM.obj _ rfl Jr.obj (fun u' t=>SS (Xl.two t NM Jr)) ?_;intro u3 g1 g2 t;have R3:=Xl.two t NM Jr;have lom:=NM.lo;have loe:=Jr.lo;have Hl:ge<u3.heap.size:=by rw[t.size];exact Jr.lt
     clear t NM Jr hne SS;go_wp2_with (first|(refine sO _ rfl (.tmp 6) rfl gm (mA M' K' (.slice a2 L'.length c2)) rfl rfl 117 (0,0) g1 ?_)|(refine wm _ rfl (.tmp 4) (.tmp 24) rfl w.heap.size (mA M K (.slice a1 L.length c1)) (mA M' K' (.slice a2 L'.length c2)) rfl rfl rfl (gu _ _ _ _ _) 117 R3.Ap rfl ?_));intro u4 g4 r4 z4;have R4:=R3.Ny g4 r4;have g24:=(r4.block ge Hl (by simp;omega)).trans g2;have hk0:u4.cell? ⟨ge,0,none⟩=some (.int .i64 (EV.getD 0 0)):=by rw[bG _ _ _ _ _ _ g24];simpa[aA]using jo EV 0 (by omega)
     clear R3 g1 g2 g4 r4 Hl z4;obtain⟨kd,hkd⟩:∃x,x=EV.getD 0 0:=⟨_,rfl⟩;rw[←hkd]at hk0;have H3:=H2.o;rw[←hkd]at H3;clear hkd H2;by_cases hz:kd=0
     ·have H4:Hid (RM.zero.evs (D.take (k+1))=(⟨M',K',L'⟩,E)):=by show _=_;rw[H3,ai (fun h=>h hz),gp]
      have bz:(kd != 0)=false:=by simp[hz]
      clear H3 hz;go_wp2_with fail;go_roundw
      case rel=>exact⟨k+1,M',K',L',a2,c2,E,by omega,by go_num,H4,hc2,R4⟩
      case measure=>simp[intOf];omega
     ·have H4:Hid (RM.zero.evs (D.take (k+1))=(⟨M',K',L'⟩,E++[EV])):=by show _=_;rw[H3,ak hz]
      have bz:(kd != 0)=true:=by simp[hz]
      have hone:∀e∈[EV],e.length=21:=by intro e he;simp at he;rw[he];exact gq
      have FU:=R4.size;have GH:=R4.ev;clear H3 hz;go_wp2_with (first|(refine fA _ rfl (.tmp 7) rfl ge EV rfl gq 46 (0,0) g24 ?_)|(refine zS _ rfl (.tmp 29) rfl EV gq rfl ?_)|(at_builtin;refine vZ u4 rfl _ _ rfl (w.heap.size+1) _ E [EV] _ ?afH hone (by simp) rfl ?afI _ _ ?afJ rfl rfl ?afK ?afL ?_))
      try (case afH=>simp)
      try (case afI=>exact GH)
      try (case afJ=>rfl)
      try (case afK=>simp;omega)
      try (case afL=>exact FU)
      intro v' w' ev' GQ hblk _;have R5:=R4.app ev' GQ hblk.o;clear R4 GH ev' GQ hblk g24 hk0 FU;go_wp2_with fail;go_roundw
      case rel=>exact⟨k+1,M',K',L',a2,c2,E++[EV],by omega,by go_num,H4,hc2,R5⟩
      case measure=>simp[intOf];omega
    ·refine wpOp_step rfl fun Kq qN=>?_;rw[ak (by rfl)];refine pG 6 rfl rfl ?_;intro gm Uba hgm om bu;have Uk:=Js.next bu;have NM:=NB.new Js hgm om;have Tc:=NE.next bu;refine qN _ _ ⟨SS Uk,?_⟩;clear bu hgm om Js NE qN;simp only[fD,fP];refine wpAnyH_all (rs:=[5]) (by kernel_rfl) (by simp) ?_;intro i hi;rw[jg]at hi;subst hi;refine wpOp_step rfl fun Kq qN=>?_;rw[ak (by rfl)];refine qW 16 20 21 rfl rfl _ _ rfl rfl _ (hcall _ Uk.sl) ?_;rintro v2 aiy ⟨a2,n2,c2,rfl,rfl,hc2,sl2,hnew,bu⟩;have MK:=Uk.body bu sl2 hnew;have Uj:=NM.body bu hnew;have Jq:=Tc.body bu hnew;refine qN _ _ ⟨SS MK,?_⟩;clear bu hnew sl2 Uk NM Tc qN;simp only[fD,fP];refine j6 (i:=6) (d:=15) (v:=.tuple #[.agg (mA M' K' (.slice a2 L'.length c2)),.agg (aA EV)]) rfl rfl (by kernel_rfl) (by kernel_rfl) (by kernel_rfl) (fun _ _ _ h=>h) (Or.inl ⟨by rfl,by intro x gY;go_simp;try rfl⟩) (SS MK) ?_;simp only[fD,fP];refine j6 (i:=7) (d:=22) (v:=.agg (mA M' K' (.slice a2 L'.length c2))) rfl rfl (by kernel_rfl) (by kernel_rfl) (by kernel_rfl) (fun _ _ _ h=>h) (Or.inl ⟨by rfl,by intro x gY;go_simp;try rfl⟩) (SS MK) ?_;simp only[fD,fP];refine j6 (i:=8) (d:=23) (v:=.agg (aA EV)) rfl rfl (by kernel_rfl) (by kernel_rfl) (by kernel_rfl) (fun _ _ _ h=>h) (Or.inl ⟨by rfl,by intro x gY;go_simp;try rfl⟩) (SS MK) ?_;simp only[fD,fP];have hne:gm≠ge:=fun e=>by have q:=Uj.obj;rw[e,Jq.obj]at q;cases q
     refine d_ (i:=11) (j:=12) rfl rfl (by kernel_rfl) (by kernel_rfl) (by kernel_rfl) rfl rfl rfl rfl (.tmp 6) (.tmp 22) (.tmp 7) (.tmp 23) rfl rfl gm ge hne rfl rfl (mA M' K' (.slice a2 L'.length c2)) rfl rfl (gu _ _ _ _ _) _ rfl EV rfl gq _ rfl Uj.obj _ rfl Jq.obj (fun u' t=>SS (MK.two t Uj Jq)) ?_;intro u3 g1 g2 t;have R3:=MK.two t Uj Jq;have lom:=Uj.lo;have loe:=Jq.lo;have Hl:ge<u3.heap.size:=by rw[t.size];exact Jq.lt
     clear t Uj Jq hne SS;go_wp2_with (first|(refine sO _ rfl (.tmp 6) rfl gm (mA M' K' (.slice a2 L'.length c2)) rfl rfl 117 (0,0) g1 ?_)|(refine wm _ rfl (.tmp 4) (.tmp 24) rfl w.heap.size (mA M K (.slice a1 L.length c1)) (mA M' K' (.slice a2 L'.length c2)) rfl rfl rfl (gu _ _ _ _ _) 117 R3.Ap rfl ?_));intro u4 g4 r4 z4;have R4:=R3.Ny g4 r4;have g24:=(r4.block ge Hl (by simp;omega)).trans g2;have hk0:u4.cell? ⟨ge,0,none⟩=some (.int .i64 (EV.getD 0 0)):=by rw[bG _ _ _ _ _ _ g24];simpa[aA]using jo EV 0 (by omega)
     clear R3 g1 g2 g4 r4 Hl z4;obtain⟨kd,hkd⟩:∃x,x=EV.getD 0 0:=⟨_,rfl⟩;rw[←hkd]at hk0;have H3:=H2.o;rw[←hkd]at H3;clear hkd H2;by_cases hz:kd=0
     ·have H4:Hid (RM.zero.evs (D.take (k+1))=(⟨M',K',L'⟩,E)):=by show _=_;rw[H3,ai (fun h=>h hz),gp]
      have bz:(kd != 0)=false:=by simp[hz]
      clear H3 hz;go_wp2_with fail;go_roundw
      case rel=>exact⟨k+1,M',K',L',a2,c2,E,by omega,by go_num,H4,hc2,R4⟩
      case measure=>simp[intOf];omega
     ·have H4:Hid (RM.zero.evs (D.take (k+1))=(⟨M',K',L'⟩,E++[EV])):=by show _=_;rw[H3,ak hz]
      have bz:(kd != 0)=true:=by simp[hz]
      have hone:∀e∈[EV],e.length=21:=by intro e he;simp at he;rw[he];exact gq
      have FU:=R4.size;have GH:=R4.ev;clear H3 hz;go_wp2_with (first|(refine fA _ rfl (.tmp 7) rfl ge EV rfl gq 46 (0,0) g24 ?_)|(refine zS _ rfl (.tmp 29) rfl EV gq rfl ?_)|(at_builtin;refine vZ u4 rfl _ _ rfl (w.heap.size+1) _ E [EV] _ ?afM hone (by simp) rfl ?afN _ _ ?afO rfl rfl ?afP ?afQ ?_))
      try (case afM=>simp)
      try (case afN=>exact GH)
      try (case afO=>rfl)
      try (case afP=>simp;omega)
      try (case afQ=>exact FU)
      intro v' w' ev' GQ hblk _;have R5:=R4.app ev' GQ hblk.o;clear R4 GH ev' GQ hblk g24 hk0 FU;go_wp2_with fail;go_roundw
      case rel=>exact⟨k+1,M',K',L',a2,c2,E++[EV],by omega,by go_num,H4,hc2,R5⟩
      case measure=>simp[intOf];omega
  ·have hkn:k=n:=by omega
   have H3:Hid (E=(RM.zero.evs D).2):=by have:=H.o;rw[l6 (by omega)]at this;show E=_;rw[this]
   have ik:¬(k:Int)<(n:Int):=by omega
   clear H;go_wp2_with fail;go_ret;exact⟨_,rfl,H3.o▸R.ev.mono (by omega),R.iB⟩
end Go.Proofs.YtheibfffilomcaaGreatDoor
