import Derived.Test.YtheibfffilomcaaGreatDoorTmaU
import Derived.Test.YtheibfffilomcaaGreatDoorRwd
set_option linter.all false
set_option maxRecDepth 100000
set_option maxHeartbeats 2000000
namespace Go.Proofs.YtheibfffilomcaaGreatDoor
open Go.RowKit Go.Proofs.Tryz
variable {w u u':World} {md mr:Int} {bv:Value} {L:List Int}
theorem lI.nil(w:World)(ao:Option Addr):lI w ao []:=fun j x h=>by simp at h
theorem FM{ops:Array Oper}{rest:List Oper}{o1 o2:Oper}{a:Act}{Q:Exit→Act→World→Prop}(w u:World)(hg1:o1.guard=none)(hg2:o2.guard=none)(hd1:o1.dst=none)(hd2:o2.dst=none)(x y:Operand)(ho1:o1.op= .store 117 (.tmp 4) x)(ho2:o2.op= .store 46 (.tmp 5) y)(h4:a.eval (.tmp 4)= .pointer (some ⟨w.heap.size+1,0,none⟩))(h5:a.eval (.tmp 5)= .pointer (some ⟨w.heap.size+2,0,none⟩))(mv:Array Value)(hx:a.eval x= .agg mv)(hms:mv.size=3)(hma:mv.all (·.oneCell')=true)(arr:Array Value)(hy:a.eval y= .agg arr)(ev:List Int)(harr:arr=aA ev)(hev:ev.length=21)(T:TW w md mr bv u)(h:∀u',u'.heap[w.heap.size+1]? =some (.cells mv 117 (0,0))→u'.heap[w.heap.size+2]? =some (.cells (aA ev) 46 (0,0))→Two (w.heap.size+1) (w.heap.size+2) u u'→wpList prog ops Q rest a u'):wpList prog ops Q (o1::o2::rest) a u:=by
 subst harr;have t1:Two (w.heap.size+1) (w.heap.size+2) u (u.setRow (w.heap.size+1) mv):=Two.row (Or.inl rfl);have r1:(u.setRow (w.heap.size+1) mv).heap[w.heap.size+1]? =some (.cells mv 117 (0,0)):=setRow_heap u _ _ _ 117 _ T.res;have r2:(u.setRow (w.heap.size+1) mv).heap[w.heap.size+2]? =some (.cells (aA aO) 46 (0,0)):=(setRow_other u _ _ _ (by omega)).trans T.Bp;have t2:Two (w.heap.size+1) (w.heap.size+2) u ((u.setRow (w.heap.size+1) mv).setRow (w.heap.size+2) (aA ev)):=t1.trans (Two.row (Or.inr rfl));have r3:((u.setRow (w.heap.size+1) mv).setRow (w.heap.size+2) (aA ev)).heap[w.heap.size+2]? =some (.cells (aA ev) 46 (0,0)):=setRow_heap _ _ _ _ 46 _ r2;have r4:((u.setRow (w.heap.size+1) mv).setRow (w.heap.size+2) (aA ev)).heap[w.heap.size+1]? =some (.cells mv 117 (0,0)):=(setRow_other _ _ _ _ (by omega)).trans r1;refine wpList_store_row hg1 117 (.tmp 4) x ho1 (w.heap.size+1) mv h4 hx 117 _ T.res (by rw[hms];exact tT) (by rw[hms];rfl) hma ?_;rw[hd1];refine wpList_store_row (a:=a.put none undef) hg2 46 (.tmp 5) y ho2 (w.heap.size+2) (aA ev) h5 hy 46 (aA aO) r2 (by rw[gP,hev];exact gZ) (by rw[gP,gP,hev];rfl) (yt _) ?_;rw[hd2];exact h _ r4 r3 t2
theorem TW.two(h:TW w md mr bv u)(b:Below u.heap.size u u'):TW w md mr bv u':=by have hz:=h.size;exact⟨(b.block _ (by omega)).trans h.box,(b.block _ (by omega)).trans h.res,(b.block _ (by omega)).trans h.Bp,(b.block _ (by omega)).trans h.non,h.iB.trans (b.mono (by omega))⟩
def kL (M K:Int) (L:List Int) (ao:Option Addr) (n cap:Nat) (c:Int) (w:World):Prop:=
 Calls prog 59 #[.agg #[.int .i64 M,.int .i64 K,.slice ao n cap],.int .i64 c] w fun e w'=>∃ao' n' cap',e= .returned (.tuple #[.agg (mA (RM.take ⟨M,K,L⟩ c).1.md (RM.take ⟨M,K,L⟩ c).1.mr (.slice ao' n' cap')),.agg (aA (RM.take ⟨M,K,L⟩ c).2)])∧n'=(RM.take ⟨M,K,L⟩ c).1.body.length∧n'≤cap'∧lI w' ao' (RM.take ⟨M,K,L⟩ c).1.body∧(∀b o,ao'=some ⟨b,o,none⟩→ao'=ao∨(w.heap.size≤b∧b<w'.heap.size))∧Below w.heap.size w w'
theorem Vm(M K:Int)(L:List Int)(ao:Option Addr)(n cap:Nat)(c:Int)(w:World)(hn:L.length=n)(hcap:n≤cap)(hsl:lI w ao L)(hc:c=27∨c=24∨c=26∨c=127):kL M K L ao n cap c w:=by
 unfold kL;rcases hc with rfl|rfl|rfl|rfl
 ·have e:RM.take ⟨M,K,L⟩ 27=(⟨1,0,[]⟩,aO):=by simp[RM.take]
  rw[e];clear e;go_enter func59,ntmps59;go_wp2_with fail;refine mq (TW w M K (.slice ao n cap)) (TW.lit w M K (.slice ao n cap)) ?_;intro W T;refine wp_region_held (S:=TQ w M K (.slice ao n cap)) mixed ?_;refine wpAnyH_take (i:=0) (v:=.agg (mA 1 0 (.slice none 0 0))) rfl (by kernel_rfl) (by kernel_rfl) (by kernel_rfl) (fun _ _ _ h=>h) (Or.inl ⟨by rfl,by intro w hSw;go_simp;try rfl⟩) T.ts ?_;refine wpAnyH_take (i:=1) (v:=.agg (aA aO)) rfl (by kernel_rfl) (by kernel_rfl) (by kernel_rfl) (fun _ _ _ h=>h) (yieldsIf_load_mid (by rfl) 46 (.tmp 6) rfl (w.heap.size+3) 0 rfl (eF aO) _ (fun w h=>h.Cw) underlying46 rfl gZ) T.ts ?_;refine d_ (i:=2) (j:=3) rfl rfl (by kernel_rfl) (by kernel_rfl) (by kernel_rfl) rfl rfl rfl rfl (.tmp 4) (.tmp 14) (.tmp 5) (.tmp 15) rfl rfl (w.heap.size+1) (w.heap.size+2) (by omega) rfl rfl (mA 1 0 (.slice none 0 0)) rfl rfl (gu _ _ _ _ _) _ rfl aO rfl rfl _ rfl T.res _ rfl T.Bp (fun u' t=>T.ts.two t) ?_;intro u' g1 g2 t;have b1:Below w.heap.size w u':=t.below T.drew.iB (by omega) (by omega);go_wp2_with fail;exact jJ results59 rfl rfl rfl rfl g1 rfl g2 ⟨none,0,0,rfl,rfl,bN _,lI.nil _ _,(fun _ _ e=>by cases e),b1⟩
 ·have e:RM.take ⟨M,K,L⟩ 24=(.zero,aO):=by simp[RM.take]
  rw[e];clear e;go_enter func59,ntmps59;go_wp2_with fail;refine mq (TW w M K (.slice ao n cap)) (TW.lit w M K (.slice ao n cap)) ?_;intro W T;refine wp_region_held (S:=TQ w M K (.slice ao n cap)) mixed ?_;refine wpAnyH_take (i:=0) (v:=.agg (mA 0 0 (.slice none 0 0))) rfl (by kernel_rfl) (by kernel_rfl) (by kernel_rfl) (fun _ _ _ h=>h) (Or.inl ⟨by rfl,by intro w hSw;go_simp;try rfl⟩) T.ts ?_;refine wpAnyH_take (i:=1) (v:=.agg (aA aO)) rfl (by kernel_rfl) (by kernel_rfl) (by kernel_rfl) (fun _ _ _ h=>h) (yieldsIf_load_mid (by rfl) 46 (.tmp 6) rfl (w.heap.size+3) 0 rfl (eF aO) _ (fun w h=>h.Cw) underlying46 rfl gZ) T.ts ?_;refine d_ (i:=2) (j:=3) rfl rfl (by kernel_rfl) (by kernel_rfl) (by kernel_rfl) rfl rfl rfl rfl (.tmp 4) (.tmp 23) (.tmp 5) (.tmp 24) rfl rfl (w.heap.size+1) (w.heap.size+2) (by omega) rfl rfl (mA 0 0 (.slice none 0 0)) rfl rfl (gu _ _ _ _ _) _ rfl aO rfl rfl _ rfl T.res _ rfl T.Bp (fun u' t=>T.ts.two t) ?_;intro u' g1 g2 t;have b1:Below w.heap.size w u':=t.below T.drew.iB (by omega) (by omega);go_wp2_with fail;exact jJ results59 rfl rfl rfl rfl g1 rfl g2 ⟨none,0,0,rfl,rfl,bN _,lI.nil _ _,(fun _ _ e=>by cases e),b1⟩
 ·have e:RM.take ⟨M,K,L⟩ 26=(.zero,aO):=by simp[RM.take]
  rw[e];clear e;go_enter func59,ntmps59;go_wp2_with fail;refine mq (TW w M K (.slice ao n cap)) (TW.lit w M K (.slice ao n cap)) ?_;intro W T;refine wp_region_held (S:=TQ w M K (.slice ao n cap)) mixed ?_;refine wpAnyH_take (i:=0) (v:=.agg (mA 0 0 (.slice none 0 0))) rfl (by kernel_rfl) (by kernel_rfl) (by kernel_rfl) (fun _ _ _ h=>h) (Or.inl ⟨by rfl,by intro w hSw;go_simp;try rfl⟩) T.ts ?_;refine wpAnyH_take (i:=1) (v:=.agg (aA aO)) rfl (by kernel_rfl) (by kernel_rfl) (by kernel_rfl) (fun _ _ _ h=>h) (yieldsIf_load_mid (by rfl) 46 (.tmp 6) rfl (w.heap.size+3) 0 rfl (eF aO) _ (fun w h=>h.Cw) underlying46 rfl gZ) T.ts ?_;refine d_ (i:=2) (j:=3) rfl rfl (by kernel_rfl) (by kernel_rfl) (by kernel_rfl) rfl rfl rfl rfl (.tmp 4) (.tmp 23) (.tmp 5) (.tmp 24) rfl rfl (w.heap.size+1) (w.heap.size+2) (by omega) rfl rfl (mA 0 0 (.slice none 0 0)) rfl rfl (gu _ _ _ _ _) _ rfl aO rfl rfl _ rfl T.res _ rfl T.Bp (fun u' t=>T.ts.two t) ?_;intro u' g1 g2 t;have b1:Below w.heap.size w u':=t.below T.drew.iB (by omega) (by omega);go_wp2_with fail;exact jJ results59 rfl rfl rfl rfl g1 rfl g2 ⟨none,0,0,rfl,rfl,bN _,lI.nil _ _,(fun _ _ e=>by cases e),b1⟩
 ·have e:RM.take ⟨M,K,L⟩ 127=(⟨M,K,L⟩,aO):=by simp[RM.take]
  rw[e];clear e;go_enter func59,ntmps59;go_wp2_with fail;refine mq (TW w M K (.slice ao n cap)) (TW.lit w M K (.slice ao n cap)) ?_;intro W T;refine wp_region_held (S:=TQ w M K (.slice ao n cap)) mixed ?_;refine wpAnyH_take (i:=0) (v:=.agg (mA M K (.slice ao n cap))) rfl (by kernel_rfl) (by kernel_rfl) (by kernel_rfl) (fun _ _ _ h=>h) (yieldsIf_load_mid (by rfl) 117 (.tmp 2) rfl w.heap.size 0 rfl [.int .i64 M,.int .i64 K,(.slice ao n cap)] _ (fun w h=>h.Rx) underlying117 rfl tT) T.ts ?_;refine wpAnyH_take (i:=1) (v:=.agg (aA aO)) rfl (by kernel_rfl) (by kernel_rfl) (by kernel_rfl) (fun _ _ _ h=>h) (yieldsIf_load_mid (by rfl) 46 (.tmp 6) rfl (w.heap.size+3) 0 rfl (eF aO) _ (fun w h=>h.Cw) underlying46 rfl gZ) T.ts ?_;refine d_ (i:=2) (j:=3) rfl rfl (by kernel_rfl) (by kernel_rfl) (by kernel_rfl) rfl rfl rfl rfl (.tmp 4) (.tmp 28) (.tmp 5) (.tmp 29) rfl rfl (w.heap.size+1) (w.heap.size+2) (by omega) rfl rfl (mA M K (.slice ao n cap)) rfl rfl (gu _ _ _ _ _) _ rfl aO rfl rfl _ rfl T.res _ rfl T.Bp (fun u' t=>T.ts.two t) ?_;intro u' g1 g2 t;have b1:Below w.heap.size w u':=t.below T.drew.iB (by omega) (by omega);go_wp2_with fail;exact jJ results59 rfl rfl rfl rfl g1 rfl g2 ⟨ao,n,cap,rfl,hn.symm,hcap,hsl.below b1,(fun _ _ _=>Or.inl rfl),b1⟩
theorem Vn(K:Int)(L:List Int)(ao:Option Addr)(n cap:Nat)(c:Int)(w:World)(hn:L.length=n)(hcap:n≤cap)(hsl:lI w ao L)(hc:c≠27∧c≠24∧c≠26∧c≠127)(M:Int)(hM:M=3):kL M K L ao n cap c w:=by
 unfold kL;have b27:(c==27)=false:=by simp[hc.1]
 have b24:(c==24)=false:=by simp[hc.2.1]
 have b26:(c==26)=false:=by simp[hc.2.2.1]
 have b127:(c==127)=false:=by simp[hc.2.2.2]
 have bM:(M==3)=true:=by simp[hM]
 have hbase:RM.take ⟨M,K,L⟩ c=if c=7∨c=156 then(.zero,aO)else(⟨M,K,L⟩,aO):=by unfold RM.take;rw[ai hc.1,ai (by omega),ai hc.2.2.2,ak hM]
 by_cases h7:c=7
 ·rw[hbase,ak (Or.inl h7)];clear hbase hc hM;have b7:(c==7)=true:=by simp[h7]
  clear h7;go_enter func59,ntmps59;go_wp2_with fail;refine mq (TW w M K (.slice ao n cap)) (TW.lit w M K (.slice ao n cap)) ?_;intro W T;refine wp_region_held (S:=TQ w M K (.slice ao n cap)) mixed ?_;refine wpAnyH_take (i:=0) (v:=.agg (mA 0 0 (.slice none 0 0))) rfl (by kernel_rfl) (by kernel_rfl) (by kernel_rfl) (fun _ _ _ h=>h) (Or.inl ⟨by rfl,by intro w hSw;go_simp;try rfl⟩) T.ts ?_;refine wpAnyH_take (i:=1) (v:=.agg (aA aO)) rfl (by kernel_rfl) (by kernel_rfl) (by kernel_rfl) (fun _ _ _ h=>h) (yieldsIf_load_mid (by rfl) 46 (.tmp 6) rfl (w.heap.size+3) 0 rfl (eF aO) _ (fun w h=>h.Cw) underlying46 rfl gZ) T.ts ?_;refine d_ (i:=2) (j:=3) rfl rfl (by kernel_rfl) (by kernel_rfl) (by kernel_rfl) rfl rfl rfl rfl (.tmp 4) (.tmp 40) (.tmp 5) (.tmp 41) rfl rfl (w.heap.size+1) (w.heap.size+2) (by omega) rfl rfl (mA 0 0 (.slice none 0 0)) rfl rfl (gu _ _ _ _ _) _ rfl aO rfl rfl _ rfl T.res _ rfl T.Bp (fun u' t=>T.ts.two t) ?_;intro u' g1 g2 t;have b1:Below w.heap.size w u':=t.below T.drew.iB (by omega) (by omega);go_wp2_with fail;exact jJ results59 rfl rfl rfl rfl g1 rfl g2 ⟨none,0,0,rfl,rfl,bN _,lI.nil _ _,(fun _ _ e=>by cases e),b1⟩
 ·by_cases h156:c=156
  ·rw[hbase,ak (Or.inr h156)];clear hbase hc hM;have b7:(c==7)=false:=by simp[h7]
   have b156:(c==156)=true:=by simp[h156]
   clear h7 h156;go_enter func59,ntmps59;go_wp2_with fail;refine mq (TW w M K (.slice ao n cap)) (TW.lit w M K (.slice ao n cap)) ?_;intro W T;refine wp_region_held (S:=TQ w M K (.slice ao n cap)) mixed ?_;refine wpAnyH_take (i:=0) (v:=.agg (mA 0 0 (.slice none 0 0))) rfl (by kernel_rfl) (by kernel_rfl) (by kernel_rfl) (fun _ _ _ h=>h) (Or.inl ⟨by rfl,by intro w hSw;go_simp;try rfl⟩) T.ts ?_;refine wpAnyH_take (i:=1) (v:=.agg (aA aO)) rfl (by kernel_rfl) (by kernel_rfl) (by kernel_rfl) (fun _ _ _ h=>h) (yieldsIf_load_mid (by rfl) 46 (.tmp 6) rfl (w.heap.size+3) 0 rfl (eF aO) _ (fun w h=>h.Cw) underlying46 rfl gZ) T.ts ?_;refine d_ (i:=2) (j:=3) rfl rfl (by kernel_rfl) (by kernel_rfl) (by kernel_rfl) rfl rfl rfl rfl (.tmp 4) (.tmp 40) (.tmp 5) (.tmp 41) rfl rfl (w.heap.size+1) (w.heap.size+2) (by omega) rfl rfl (mA 0 0 (.slice none 0 0)) rfl rfl (gu _ _ _ _ _) _ rfl aO rfl rfl _ rfl T.res _ rfl T.Bp (fun u' t=>T.ts.two t) ?_;intro u' g1 g2 t;have b1:Below w.heap.size w u':=t.below T.drew.iB (by omega) (by omega);go_wp2_with fail;exact jJ results59 rfl rfl rfl rfl g1 rfl g2 ⟨none,0,0,rfl,rfl,bN _,lI.nil _ _,(fun _ _ e=>by cases e),b1⟩
  ·rw[hbase,ai (by omega)];clear hbase hc hM;have b7:(c==7)=false:=by simp[h7]
   have b156:(c==156)=false:=by simp[h156]
   clear h7 h156;go_enter func59,ntmps59;go_wp2_with fail;refine mq (TW w M K (.slice ao n cap)) (TW.lit w M K (.slice ao n cap)) ?_;intro W T;refine wp_region_held (S:=TQ w M K (.slice ao n cap)) mixed ?_;refine wpAnyH_take (i:=0) (v:=.agg (mA M K (.slice ao n cap))) rfl (by kernel_rfl) (by kernel_rfl) (by kernel_rfl) (fun _ _ _ h=>h) (yieldsIf_load_mid (by rfl) 117 (.tmp 2) rfl w.heap.size 0 rfl [.int .i64 M,.int .i64 K,(.slice ao n cap)] _ (fun w h=>h.Rx) underlying117 rfl tT) T.ts ?_;refine wpAnyH_take (i:=1) (v:=.agg (aA aO)) rfl (by kernel_rfl) (by kernel_rfl) (by kernel_rfl) (fun _ _ _ h=>h) (yieldsIf_load_mid (by rfl) 46 (.tmp 6) rfl (w.heap.size+3) 0 rfl (eF aO) _ (fun w h=>h.Cw) underlying46 rfl gZ) T.ts ?_;refine d_ (i:=2) (j:=3) rfl rfl (by kernel_rfl) (by kernel_rfl) (by kernel_rfl) rfl rfl rfl rfl (.tmp 4) (.tmp 42) (.tmp 5) (.tmp 43) rfl rfl (w.heap.size+1) (w.heap.size+2) (by omega) rfl rfl (mA M K (.slice ao n cap)) rfl rfl (gu _ _ _ _ _) _ rfl aO rfl rfl _ rfl T.res _ rfl T.Bp (fun u' t=>T.ts.two t) ?_;intro u' g1 g2 t;have b1:Below w.heap.size w u':=t.below T.drew.iB (by omega) (by omega);go_wp2_with fail;exact jJ results59 rfl rfl rfl rfl g1 rfl g2 ⟨ao,n,cap,rfl,hn.symm,hcap,hsl.below b1,(fun _ _ _=>Or.inl rfl),b1⟩
theorem Fj(M K:Int)(L:List Int)(ao:Option Addr)(n cap:Nat)(c:Int)(w:World)(hn:L.length=n)(hcap:n≤cap)(hsl:lI w ao L)(hc:c≠27∧c≠24∧c≠26∧c≠127)(hM:M≠3)(h:c<32∨(¬c<32∧M=0)∨(¬c<32∧M=1)):kL M K L ao n cap c w:=by
 unfold kL;have b27:(c==27)=false:=by simp[hc.1]
 have b24:(c==24)=false:=by simp[hc.2.1]
 have b26:(c==26)=false:=by simp[hc.2.2.1]
 have b127:(c==127)=false:=by simp[hc.2.2.2]
 have bM:(M==3)=false:=by simp[hM]
 rcases h with h|⟨h,h0⟩|⟨h,h1⟩
 ·have e:RM.take ⟨M,K,L⟩ c=(⟨M,K,L⟩,[2,c,0,0,0]++z16):=by unfold RM.take;rw[ai hc.1,ai (by omega),ai hc.2.2.2,ai hM,ak h]
  rw[e];clear e hc hM;go_enter func59,ntmps59;go_wp2_with (refine FM w _ rfl rfl rfl rfl (.tmp 47) (.tmp 49) rfl rfl rfl rfl (mA M K (.slice ao n cap)) rfl rfl (gu _ _ _ _ _) _ rfl ([2,c,0,0,0]++z16) rfl rfl (TW.lit w M K (.slice ao n cap)) ?_);intro u' g1 g2 t;have b1:Below w.heap.size w u':=t.below (TW.lit w M K (.slice ao n cap)).iB (by omega) (by omega);go_wp2_with fail;exact jJ results59 rfl rfl rfl rfl g1 rfl g2 ⟨ao,n,cap,rfl,hn.symm,hcap,hsl.below b1,(fun _ _ _=>Or.inl rfl),b1⟩
 ·have e:RM.take ⟨M,K,L⟩ c=(⟨M,K,L⟩,[1,c,0,0,0]++z16):=by unfold RM.take;rw[ai hc.1,ai (by omega),ai hc.2.2.2,ai hM,ai h,ak h0]
  rw[e];clear e hc hM;have b0:(M==0)=true:=by simp[h0]
  clear h0;go_enter func59,ntmps59;go_wp2_with (refine FM w _ rfl rfl rfl rfl (.tmp 54) (.tmp 56) rfl rfl rfl rfl (mA M K (.slice ao n cap)) rfl rfl (gu _ _ _ _ _) _ rfl ([1,c,0,0,0]++z16) rfl rfl (TW.lit w M K (.slice ao n cap)) ?_);intro u' g1 g2 t;have b1:Below w.heap.size w u':=t.below (TW.lit w M K (.slice ao n cap)).iB (by omega) (by omega);go_wp2_with fail;exact jJ results59 rfl rfl rfl rfl g1 rfl g2 ⟨ao,n,cap,rfl,hn.symm,hcap,hsl.below b1,(fun _ _ _=>Or.inl rfl),b1⟩
 ·have e:RM.take ⟨M,K,L⟩ c=RM.esc ⟨M,K,[]⟩ c:=by unfold RM.take;rw[ai hc.1,ai (by omega),ai hc.2.2.2,ai hM,ai h,ai (show¬M=0 by omega),ak h1];rfl
  have hlen:(RM.esc ⟨M,K,[]⟩ c).2.length=21:=by unfold RM.esc;(repeat' split)<;>rfl
  have hnil:(RM.esc ⟨M,K,[]⟩ c).1.body=[]:=by unfold RM.esc;(repeat' split)<;>rfl
  rw[e];clear e hc hM;have b0:(M==0)=false:=by simp[h1]
  have b1:(M==1)=true:=by simp[h1]
  clear h1;rw[hnil];clear hnil;have hcall:=Ru M K (.slice ao n cap) ⟨_,_,_,rfl⟩ c;generalize RM.esc ⟨M,K,[]⟩ c=X at*;obtain⟨⟨M',K',L'⟩,EV⟩:=X;dsimp only at hlen hcall ⊢;go_enter func59,ntmps59;go_wp2_with fail;refine(hcall _).mono ?_;rintro e u ⟨rfl,bu⟩;have T:=(TW.lit w M K (.slice ao n cap)).two bu;clear hcall;go_wp2_with (refine FM w _ rfl rfl rfl rfl (.tmp 64) (.tmp 65) rfl rfl rfl rfl (mA M' K' (.slice none 0 0)) rfl rfl (gu _ _ _ _ _) _ rfl EV rfl hlen T ?_);intro u' g1 g2 t;have b1:Below w.heap.size w u':=t.below T.iB (by omega) (by omega);go_wp2_with fail;exact jJ results59 rfl rfl hlen rfl g1 rfl g2 ⟨none,0,0,rfl,rfl,bN _,lI.nil _ _,(fun _ _ e=>by cases e),b1⟩
theorem gI.sl{base:Nat}{v:Value}(h:gI w base v L):∃a c,v= .slice a L.length c∧L.length≤c∧lI w a L∧∀b o,a=some ⟨b,o,none⟩→base≤b:=by
 obtain⟨h1,h2⟩:=h;rcases h2 with⟨rfl,h0⟩|⟨g,cap,cur,rfl,hgb,hg,hn,_,hcs,htake⟩
 ·refine⟨none,0,by rw[h0],by omega,fun j x hj=>?_,fun _ _ e=>by cases e⟩;have:L=[]:=zT h0;subst this;simp at hj
 ·refine⟨_,cap,rfl,hn,fun j x hj=>⟨g,0,rfl,(wK.1 hg).1,?_⟩,fun b o e=>by cases e;exact hgb⟩;rw[bG _ _ _ _ _ _ hg,lH];have hj':(L.map (Value.int .i64))[j]? =some (.int .i64 x):=by simp[hj]
  rw[←htake,mJ]at hj';split at hj'
  ·simpa using hj'
  ·cases hj'
theorem lI.blk{w':World}{a:Option Addr}(h:lI w a L)(hk:∀b o,a=some ⟨b,o,none⟩→w'.heap[b]? =w.heap[b]?):lI w' a L:=fun j x hj=>by obtain⟨b,o,e,hlt,hc⟩:=h j x hj;have hc':=(dA (hk b o e)).trans hc;exact⟨b,o,e,F4 _ _ hc',hc'⟩
theorem TW.over(h:TW w md mr bv u)(b:Below (w.heap.size+4) u u'):TW w md mr bv u':=
 ⟨(b.block _ (by omega)).trans h.box,(b.block _ (by omega)).trans h.res,(b.block _ (by omega)).trans h.Bp,(b.block _ (by omega)).trans h.non,h.iB.trans (b.mono (by omega))⟩
theorem TW.VY(h:TW w md mr bv u):u.cell? ⟨w.heap.size,2,none⟩=some bv:=by rw[bG _ _ _ _ _ _ h.box];rfl
theorem TW.fr2(h:TW w md mr bv u):u.frozen? ⟨w.heap.size,2,none⟩=false:=oh _ _ _ _ _ h.box
theorem TW.set2(h:TW w md mr bv u)(v:Value):TW w md mr v (u.setCell ⟨w.heap.size,2,none⟩ v):=
 ⟨(rR u w.heap.size 2 _ 117 v h.box).trans rfl,(uI u _ _ _ (by simp)).trans h.res,(uI u _ _ _ (by simp)).trans h.Bp,(uI u _ _ _ (by simp)).trans h.non,
   h.iB.trans ⟨rfl,rfl,rfl,by simp[World.setCell],fun k hk=>uI u _ k _ (by simp;omega)⟩⟩
theorem sw(mk c:Int):∀(r:List Int) (v:Int) (al:Nat) (ps:List Int) (ct:Int),ps.length=16→(bZ mk c r v al ps ct).length=21
 | [],v,al,ps,ct,h=>by simp only[bZ];split<;>simp[h]
 |x::r,v,al,ps,ct,h=>by
  simp only[bZ];split
  ·split
   ·exact sw mk c r _ _ _ _ (by simp[h])
   ·exact sw mk c r _ _ _ _ h
  ·split
   ·rfl
   ·exact sw mk c r _ _ _ _ h
theorem Io(L:List Int)(c:Int):(dR L c).length=21:=by
 cases L with
 |nil=>exact sw _ _ _ _ _ _ _ rfl
 |cons x r=>simp only[dR];split<;>exact sw _ _ _ _ _ _ _ rfl
theorem Vo(M K:Int)(L:List Int)(ao:Option Addr)(n cap:Nat)(c:Int)(w:World)(hn:L.length=n)(hcap:n≤cap)(hn2:n≤3000000)(hbx:∀x∈L,0≤x∧x≤10000000)(hsl:lI w ao L)(hc:c≠27∧c≠24∧c≠26∧c≠127)(hM:M≠3∧M≠0∧M≠1)(h32:¬c<32)(hf:fe c=true)(h21:(dR L c).length=21):kL M K L ao n cap c w:=by
 unfold kL;have b27:(c==27)=false:=by simp[hc.1]
 have b24:(c==24)=false:=by simp[hc.2.1]
 have b26:(c==26)=false:=by simp[hc.2.2.1]
 have b127:(c==127)=false:=by simp[hc.2.2.2]
 have bM:(M==3)=false:=by simp[hM.1]
 have bM0:(M==0)=false:=by simp[hM.2.1]
 have bM1:(M==1)=false:=by simp[hM.2.2]
 have e:RM.take ⟨M,K,L⟩ c=(.zero,dR L c):=by unfold RM.take;rw[ai hc.1,ai (by omega),ai hc.2.2.2,ai hM.1,ai h32,ai hM.2.1,ai hM.2.2,ak hf]
 rw[e];have HF:Hid _:=hf;have hcall:=Rz n cap ao L c;generalize dR L c=EV at*;clear e hc hM hf;go_enter func59,ntmps59;go_wp2_with fail;refine(DX c true _ HF.o).mono ?_;rintro e w1 ⟨rfl,rfl⟩;go_wp2_with fail;refine(hcall _ hn hn2 hcap hbx (hsl.below (TW.lit w M K (.slice ao n cap)).iB)).mono ?_;rintro e u ⟨rfl,bu⟩;have T0:=(TW.lit w M K (.slice ao n cap)).two bu;clear hcall bu;go_wp2_with (refine b_ _ rfl (.tmp 8) (.tmp 72) rfl u.heap.size aO EV rfl _ rfl rfl h21 46 (bV u _) rfl ?_);intro W gE rv zv;have hz:=T0.size;have T:TW w M K (.slice ao n cap) W:=T0.two (((dU _ _).alloc (bN _) _).grown rv (by simp) (fun k e=>by simp at e;omega));clear rv T0;go_wp2_with fail;refine wp_region_held (S:=fun x=>TQ w M K (.slice ao n cap) x∧x.heap[u.heap.size]? =some (.cells (aA EV) 46 (0,0))) mixed ?_;refine wpAnyH_take (i:=0) (v:=.agg (mA 0 0 (.slice none 0 0))) rfl (by kernel_rfl) (by kernel_rfl) (by kernel_rfl) (fun _ _ _ h=>h) (Or.inl ⟨by rfl,by intro w hSw;go_simp;try rfl⟩) ⟨T.ts,gE⟩ ?_;refine wpAnyH_take (i:=1) (v:=.agg (aA EV)) rfl (by kernel_rfl) (by kernel_rfl) (by kernel_rfl) (fun _ _ _ h=>h) (yieldsIf_load_mid (by rfl) 46 (.tmp 8) rfl u.heap.size 0 rfl (eF EV) _ (fun x h j v hv=>by rw[bG _ _ _ _ _ _ h.2,lH];simpa[aA]using hv) underlying46 rfl (by rw[jk,h21];exact gZ)) ⟨T.ts,gE⟩ ?_;refine d_ (i:=2) (j:=3) rfl rfl (by kernel_rfl) (by kernel_rfl) (by kernel_rfl) rfl rfl rfl rfl (.tmp 4) (.tmp 73) (.tmp 5) (.tmp 74) rfl rfl (w.heap.size+1) (w.heap.size+2) (by omega) rfl rfl (mA 0 0 (.slice none 0 0)) rfl rfl (gu _ _ _ _ _) _ rfl EV rfl h21 _ rfl T.res _ rfl T.Bp (fun u' t=>⟨T.ts.two t,(t.block _ (by omega) (by omega)).trans gE⟩) ?_;intro u' g1 g2 t;have b1:Below w.heap.size w u':=t.below T.drew.iB (by omega) (by omega);go_wp2_with fail;exact jJ results59 rfl rfl h21 rfl g1 rfl g2 ⟨none,0,0,rfl,rfl,bN _,lI.nil _ _,(fun _ _ e=>by cases e),b1⟩
theorem Vp(M K:Int)(L:List Int)(ao:Option Addr)(n cap:Nat)(c:Int)(w:World)(hn:L.length=n)(_hcap:n≤cap)(hn2:n≤3000000)(hsl:lI w ao L)(hc:c≠27∧c≠24∧c≠26∧c≠127)(hM:M≠3∧M≠0∧M≠1)(h32:¬c<32)(hf:fe c=false):kL M K L ao n cap c w:=by
 unfold kL;have b27:(c==27)=false:=by simp[hc.1]
 have b24:(c==24)=false:=by simp[hc.2.1]
 have b26:(c==26)=false:=by simp[hc.2.2.1]
 have b127:(c==127)=false:=by simp[hc.2.2.2]
 have bM:(M==3)=false:=by simp[hM.1]
 have bM0:(M==0)=false:=by simp[hM.2.1]
 have bM1:(M==1)=false:=by simp[hM.2.2]
 have e:RM.take ⟨M,K,L⟩ c=(⟨M,K,L++[c]⟩,aO):=by unfold RM.take;rw[ai hc.1,ai (by omega),ai hc.2.2.2,ai hM.1,ai h32,ai hM.2.1,ai hM.2.2,ai (by simp[hf])]
 rw[e];have HF:Hid _:=hf;clear e hc hM hf;go_enter func59,ntmps59;go_wp2_with fail;refine(DX c false _ HF.o).mono ?_;rintro e w1 ⟨rfl,rfl⟩;go_wp2_with fail;go_loopw [9,10] (fun v i wr=>∃k:Nat,k≤n∧i= .int .i64 k∧gI wr (w.heap.size+4) v (L.take k)∧TW w M K (.slice ao n cap) wr) (fun _ i _=>n-(intOf i).toNat)
 case atStart=>exact⟨0,dx _,rfl,AU _ _ _ _,TW.lit w M K (.slice ao n cap)⟩
 case round=>
  obtain⟨k,hk,rfl,own,T⟩:=hrel;have hc2:=T.VY;have hz:=T.size;by_cases hlt:k<n
  ·have hkl:k<L.length:=by omega
   have hlen:(L.take k).length=k:=by rw[kg];omega
   have hsucc:L.take (k+1)=L.take k++[L[k]]:=o7 hkl;obtain⟨bb,oo,rfl,hblt,hcell⟩:=hsl k L[k] (eG hkl);have hcr:=(T.iB.cell hblt).trans hcell;generalize L[k]=x at*;have ik:(k:Int)<(n:Int):=by omega
   clear hcell;go_wp2_with (at_builtin;refine AA wr rfl _ _ rfl (w.heap.size+4) _ (L.take k) _ rfl ?c1 _ ?c2 rfl ?c3 ?c4 ?_)
   case c1=>exact own
   case c2=>rfl
   case c3=>omega
   case c4=>exact hz
   intro v1 w2 jR hb1;rw[←hsucc]at jR;have T1:=T.over hb1;clear T own hb1 hcr hc2 hz;go_wp2_with fail;go_roundw
   case rel=>exact⟨k+1,by omega,by go_num,jR,T1⟩
   case measure=>simp[intOf];omega
  ·have hkn:k=n:=by omega
   have hall:L.take k=L:=l6 (by omega);rw[hall]at own;have ik:¬(k:Int)<(n:Int):=by omega
   clear hall;go_wp2_with (at_builtin;refine AA wr rfl _ _ rfl (w.heap.size+4) _ L _ rfl ?d1 _ ?d2 rfl ?d3 ?d4 ?_)
   try (case d1=>exact own)
   try (case d2=>rfl)
   try (case d3=>omega)
   try (case d4=>exact hz)
   intro v1 w2 jR hb1;have T1:=T.over hb1;clear T own hb1 hc2 hz;obtain⟨a1,c1,rfl,hc1,hsl1,hba⟩:=jR.sl;have hz1:=T1.size;have hc2:=T1.VY;have hf2:=T1.fr2;have hl1:(L++[c]).length=n+1:=by simp[hn]
   rw[hl1]at hc1;simp only[hl1];go_wp2_with fail;refine mq (fun W=>TW w M K (.slice a1 (n+1) c1) W∧lI W a1 (L++[c])) ⟨T1.set2 _,hsl1.blk fun b o e=>uI _ _ _ _ (by have:=hba b o e;simp;omega)⟩ ?_;rintro W ⟨T,ae7⟩;refine wp_region_held (S:=TQ w M K (.slice a1 (n+1) c1)) mixed ?_;refine wpAnyH_take (i:=0) (v:=.agg (mA M K (.slice a1 (n+1) c1))) rfl (by kernel_rfl) (by kernel_rfl) (by kernel_rfl) (fun _ _ _ h=>h) (yieldsIf_load_mid (by rfl) 117 (.tmp 2) rfl w.heap.size 0 rfl [.int .i64 M,.int .i64 K,(.slice a1 (n+1) c1)] _ (fun w h=>h.Rx) underlying117 rfl tT) T.ts ?_;refine wpAnyH_take (i:=1) (v:=.agg (aA aO)) rfl (by kernel_rfl) (by kernel_rfl) (by kernel_rfl) (fun _ _ _ h=>h) (yieldsIf_load_mid (by rfl) 46 (.tmp 6) rfl (w.heap.size+3) 0 rfl (eF aO) _ (fun w h=>h.Cw) underlying46 rfl gZ) T.ts ?_;refine d_ (i:=2) (j:=3) rfl rfl (by kernel_rfl) (by kernel_rfl) (by kernel_rfl) rfl rfl rfl rfl (.tmp 4) (.tmp 95) (.tmp 5) (.tmp 96) rfl rfl (w.heap.size+1) (w.heap.size+2) (by omega) rfl rfl (mA M K (.slice a1 (n+1) c1)) rfl rfl (gu _ _ _ _ _) _ rfl aO rfl rfl _ rfl T.res _ rfl T.Bp (fun u' t=>T.ts.two t) ?_;intro u' g1 g2 t;have b1:Below w.heap.size w u':=t.below T.drew.iB (by omega) (by omega);have acd:lI u' a1 (L++[c]):=ae7.blk fun b o e=>t.block b (by have:=hba b o e;omega) (by have:=hba b o e;omega);go_wp2_with fail;exact jJ results59 rfl rfl rfl rfl g1 rfl g2 ⟨a1,n+1,c1,rfl,hl1.symm,hc1,acd,(fun b o e=>Or.inr ⟨by have:=hba b o e;omega,by obtain⟨b',o',e',hlt,_⟩:=acd 0 ((L++[c])[0]'(by simp)) (eG _);rw[e]at e';cases e';exact hlt⟩),b1⟩
theorem NT(M K:Int)(L:List Int)(ao:Option Addr)(n cap:Nat)(c:Int)(w:World)(hn:L.length=n)(hcap:n≤cap)(hn2:n≤3000000)(hbx:∀x∈L,0≤x∧x≤10000000)(hsl:lI w ao L):kL M K L ao n cap c w:=by
 by_cases h1:c=27∨c=24∨c=26∨c=127
 ·exact Vm M K L ao n cap c w hn hcap hsl h1
 ·have hc:c≠27∧c≠24∧c≠26∧c≠127:=by omega
  by_cases h3:M=3
  ·exact Vn K L ao n cap c w hn hcap hsl hc M h3
  ·by_cases h32:c<32
   ·exact Fj M K L ao n cap c w hn hcap hsl hc h3 (Or.inl h32)
   ·by_cases h0:M=0
    ·exact Fj M K L ao n cap c w hn hcap hsl hc h3 (Or.inr (Or.inl ⟨h32,h0⟩))
    ·by_cases hh1:M=1
     ·exact Fj M K L ao n cap c w hn hcap hsl hc h3 (Or.inr (Or.inr ⟨h32,hh1⟩))
     ·cases hf:fe c with
      |true=>exact Vo M K L ao n cap c w hn hcap hn2 hbx hsl hc ⟨h3,h0,hh1⟩ h32 hf (Io L c)
      |false=>exact Vp M K L ao n cap c w hn hcap hn2 hsl hc ⟨h3,h0,hh1⟩ h32 hf
end Go.Proofs.YtheibfffilomcaaGreatDoor
