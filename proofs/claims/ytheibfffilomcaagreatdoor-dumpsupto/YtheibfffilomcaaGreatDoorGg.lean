import Derived.Test.YtheibfffilomcaaGreatDoorTmaU
import Derived.Test.YtheibfffilomcaaGreatDoorZjU
import Derived.Test.YtheibfffilomcaaGreatDoorVjU
import Derived.Test.YtheibfffilomcaaGreatDoorZk
set_option linter.all false
set_option maxRecDepth 100000
set_option maxHeartbeats 8000000
namespace Go.Proofs.YtheibfffilomcaaGreatDoor
open Go.RowKit Go.Proofs.Tryz
theorem Cf{o:Oper}{l:List Value}{ds:List Deferred}{u:World}{K:Act→World→Prop}{Q:Exit→Act→World→Prop}(d:Nat)(ho:o.op= .alloc 80)(hd:o.dst=some d)(h:K ⟨(l.set d (.pointer (some ⟨u.heap.size,0,none⟩))).toArray,ds⟩ (u.alloc (.cells #[.bool false,.bool false,.bool false,.int .i64 0,.int .i64 0] 80))):Oper.wp prog o ⟨l.toArray,ds⟩ u K Q:=by unfold Oper.wp execOp;simp only[ho];go_simp;exact h
theorem bR.aaX{w:World}{tb:Nat}{v0 v1:Value}{fed:ByteArray}{done:Nat}{d:DT}(h:bR w tb v0 v1 fed done d)(hl:d.tb.length=40)(k:Nat)(hk:k<40):w.cell? ⟨tb,47+k,none⟩=some (.bool (d.tb.getD k false)):=by
 refine h.c (47+k) _ ?_;have hl':k<d.tb.length:=by omega
 show(_++(xM d.t++(aT v0 d.t.v0++(aT v1 d.t.v1++(d.tb.map Value.bool++[.int .i64 d.ids])))))[47+k]? =_;rw[←f_, ←f_, ←f_,og (by simp[xM,aB,aT])];rw[show 47+k-_=k by simp[xM,aB,aT],qA (by simp;omega)];simp[List.getD,eG hl']
theorem KT:∀(T:List Bool) (i k:Nat) (b:Bool),T[k]? =some b→WS.lg i (T.take (k+1))=(WS.lg i (T.take k)&&decide (b=WS.nR (i+k))):=by
 intro T;induction T with
 |nil=>intro i k b h;simp at h
 |cons c T ih=>
  intro i k b h;cases k with
  |zero=>simp at h;subst h;simp[WS.lg]
  |succ k=>have h1:=ih (i+1) k b (by simpa using h);show(decide (c=WS.nR i)&&WS.lg (i+1) (T.take (k+1)))=((decide (c=WS.nR i)&&WS.lg (i+1) (T.take k))&&_);rw[h1,show i+1+k=i+(k+1) by omega,Bool.and_assoc]
theorem NZ{o:Oper}{a:Act}(x y:Operand)(ho:o.op= .binOp .neq 82 x y 82)(c d:di)(hx:a.eval x= .agg (aB c).toArray)(hy:a.eval y= .agg (aB d).toArray)(w:World):(execOp a.eval o).run prog w= .ok (.value (.bool (!decide (c=d)))) w:=by
 have h:(binOp .neq 82 (.agg (aB c).toArray) (.agg (aB d).toArray)).run prog w= .ok (.bool (!decide (c=d))) w:=by rw[run_neq_struct,LY 9997];rfl
 unfold execOp;simp only[ho,hx,hy,jV,JR 82 (.inr (.inl rfl)),h,jU,mK]
def uZ (d:DT) (t1 t2:List Int):List Int:=if d.t.shown=1∨t2≠[]then t1++[27,91,63,52,55,104]++t2++(if d.t.shown=0 then[27,91,63,52,55,108]else[])else t1
def qh (d:DT) (t2:List Int) (q1 q2:fO):fO:=if d.t.shown=1∨t2≠[]then q2 else q1
def LW (d:DT) (t1 t2:List Int):List Int:=uZ d t1 t2++(if WS.lg 0 d.abs.tabs=true then[]else(WS.l_ ⟨[27,91,51,103],mO⟩ 0 d.abs.tabs).tx)
def uP (d:DT) (t1 t2:List Int):List Int:=LW d t1 t2++(if d.t.top≠0∨d.t.bottom≠(d.t.rows:Int)-1 then[27,91]++(lY d.t.top d.t.bottom++[114])else[])
def LX (d:DT) (t1 t2 tS:List Int):List Int:=uP d t1 t2++(if uP d t1 t2≠[]∨d.t.spot≠aY then tS else[])
def GD (d:DT) (t1 t2:List Int) (q1 q2:fO) (tS:List Int):List Int:=LX d t1 t2 tS++(if d.t.insert then[27,91,52,104]else[])++(if d.t.wrap then[]else[27,91,63,55,108])
theorem Rb(t:ByteArray)(i:Nat)(r:List UInt8):i≤t.size→ByteArray.toList.loop t i r=r.reverse++t.data.toList.drop i:=by
 fun_induction ByteArray.toList.loop t i r with
 |case1 i r h ih=>
  intro _;rw[ih (by omega)];have hl:i<t.data.toList.length:=by rw[Array.length_toList];exact h
  have hg:t.get! i=t.data.toList[i]:=by show t.data[i]! =_;rw[Array.getElem_toList];exact getElem!_pos t.data i (by exact h)
  rw[uH hl,List.reverse_cons,f_,hg];rfl
 |case2 i r h=>
  intro hi;have:t.data.toList.length≤i:=by rw[Array.length_toList];exact Nat.le_of_not_lt h
  rw[qB this,gp]
theorem FK(t:ByteArray):t.toList=t.data.toList:=by unfold ByteArray.toList;rw[Rb t 0 [] (dx _)];simp
theorem Sd(s:ByteArray)(t:List Int)(h:bl s=t):(!s.toList.isEmpty)=decide (t≠[]):=by
 rw[FK, ←h];unfold bl;cases hd:s.data.toList with
 |nil=>simp
 |cons x l=>simp
theorem M3(tb:Nat)(v0 v1:Value)(fed:ByteArray)(done:Nat)(d:DT)(w:World)(ht:bR w tb v0 v1 fed done d)(hok:d.Ok)(t1 t2:List Int)(q1 q2:fO)(PU:∀u,Sm w u→Calls prog 66 #[.agg (aT v0 d.t.v0).toArray,.agg (aW mO)] u fun e w'=>∃s:ByteArray,e= .returned (.tuple #[.string s,.agg (aW q1)])∧bl s=t1∧s.size≤21000∧Sm u w')(SC2:∀u,Sm w u→Calls prog 66 #[.agg (aT v1 d.t.v1).toArray,.agg (aW q1)] u fun e w'=>∃s:ByteArray,e= .returned (.tuple #[.string s,.agg (aW q2)])∧bl s=t2∧s.size≤21000∧Sm u w')(tS:List Int)(SPH:∀u,Sm w u→Calls prog 68 #[.agg (aT (if d.t.shown=0 then v0 else v1) (if d.t.shown=0 then d.t.v0 else d.t.v1)).toArray,.agg (aB d.t.spot).toArray,.int .i64 d.t.top,.agg (aW (qh d t2 q1 q2))] u fun e w'=>∃s:ByteArray,e= .returned (.string s)∧bl s=tS∧s.size≤200∧Sm u w'):Calls prog 31 #[.pointer (some ⟨tb,0,none⟩)] w fun e w'=>∃s:ByteArray,e= .returned (.string s)∧bl s=GD d t1 t2 q1 q2 tS∧Sm w w':=by
 have HT:Hid (∀u,Sm w u→bR u tb v0 v1 fed done d):=fun u hu=>ht.sm hu;have HR0:Hid (w.rangeAt tb 21 (aT v0 d.t.v0)):=ht.range 21 _ rfl;have ad_:Hid _:=PU;have aad:Hid _:=SC2;have iV:Hid _:=hok;have htlt:=ht.lt;clear ht PU SC2 hok;go_enter func31,ntmps31;go_wp2_with (refine nN rfl 87 (.tmp 15) rfl tb 21 rfl (aT v0 d.t.v0) _ HR0.o underlying87 rfl jP ?_);refine(ad_.o _ (Ch.refl _ _)).mono ?_;rintro e w1 ⟨s1,rfl,hb1,z1,zb⟩;have HB1:Hid _:=hb1;have ME:Hid (Sm w w1):=zb;clear hb1 zb;go_upto_region 2 with(refine bK _ rfl 80 (.tmp 4) (.tmp 20) rfl w1.heap.size [.bool false,.bool false,.bool false,.int .i64 0,.int .i64 0] (dG q1) rfl _ rfl rfl 80 (bV _ _) rfl eH (jq _) ?_;intro u1 g1 k1 z11;have Gh:Hid (Sm w u1):=ME.o.trans (Sm.fresh k1);have S_:Hid (u1.heap[w1.heap.size]? =some (.cells (aW q1) 80 (0,0))):=g1;clear g1 k1 z11);obtain⟨g4,hg4⟩:∃g,g=w1.heap.size:=⟨_,rfl⟩;have MC:Hid (u1.heap[g4]? =some (.cells (aW q1) 80 (0,0))):=by show _=_;rw[hg4];exact S_.o
 have h4w:w.heap.size≤g4:=by rw[hg4];exact ME.o.size
 rw[←hg4];clear hg4 S_
 (try go_simp)
 go_cut [5,6] from 21 to 30 (fun s5 s6 wc=>∃(s2:ByteArray) (g6:Nat),s5= .string s2∧bl s2=t2∧s2.size≤21000∧s6= .pointer (some ⟨g6,0,none⟩)∧wc.heap[g6]? =some (.cells (aW q2) 80 (0,0))∧Sm u1 wc∧u1.heap.size≤g6)
 case first=>
  go_wp2_with fail;have Ct:Sm u1 ({u1 with drawn:=u1.drawn+1}:World):=(Ch.refl _ _).drewN 1;have KS:∀y,Sm u1 y→y.rangeAt tb 34 (aT v1 d.t.v1)∧y.heap[g4]? =some (.cells (aW q1) 80 (0,0)):=fun y hy=>⟨(HT.o y (Gh.o.trans hy)).range 34 _ rfl,(hy.block _ (aK MC.o) id).trans MC.o⟩;have S0:=KS _ Ct;refine dX (S:=fun x=>x.rangeAt tb 34 (aT v1 d.t.v1)∧x.heap[g4]? =some (.cells (aW q1) 80 (0,0))) aX ?_;refine aj 0 S0 ?_;simp only[ag,af];refine aj 5 S0 ?_ (v:=.agg (aW q1)) (hy:=(kz (by rfl) 80 (.tmp 4) rfl g4 0 rfl (dG q1) _ (fun x h=>fK h.2) underlying80 rfl eH));refine dW 1 2 S0 ?_;refine aj 3 S0 ?_ (v:=.pointer (some ⟨tb,34,none⟩));simp only[ag,af];refine aj 4 S0 ?_ (v:=.agg (aT v1 d.t.v1).toArray) (hy:=(kz (by rfl) 87 (.tmp 25) rfl tb 34 rfl (aT v1 d.t.v1) _ (fun x h=>h.1) underlying87 rfl jP));simp only[ag,af];refine lQ 6 10 ?_ ?_
  ·refine dI ?_;refine pJ (aad.o ({u1 with drawn:=u1.drawn+1}:World) (Gh.o.trans Ct)) ?_;rintro v28 w2 ⟨s2,rfl,hb2,z2,wI⟩;have VU:Sm u1 w2:=Ct.trans wI;have SC:=KS _ VU;refine⟨SC,?_⟩
   try simp only[ag,af]
   refine aj 7 SC ?_;refine aj 8 SC ?_ (v:=.string s2);refine aj 9 SC ?_ (v:=.agg (aW q2));simp only[ag,af];refine av 10 ?_;refine Cf 6 rfl rfl ?_;have G6:(w2.alloc (.cells #[.bool false,.bool false,.bool false,.int .i64 0,.int .i64 0] 80)).heap[w2.heap.size]? =some (.cells #[.bool false,.bool false,.bool false,.int .i64 0,.int .i64 0] 80 (0,0)):=bV _ _;have Dn:Sm u1 (w2.alloc (.cells #[.bool false,.bool false,.bool false,.int .i64 0,.int .i64 0] 80)):=VU.alloc _;have SA:=KS _ Dn;have hg6:u1.heap.size≤w2.heap.size:=VU.size;refine⟨SA,?_⟩
   try simp only[ag,af]
   refine aj 11 SA ?_;simp only[ag,af];refine av 12 ?_;refine uo 80 (.tmp 6) (.tmp 30) rfl rfl (w2.heap.size) [.bool false,.bool false,.bool false,.int .i64 0,.int .i64 0] (dG q2) rfl rfl 80 G6 rfl eH (jq _) ?_;intro u2 gg2 k2;have Xp:Sm u1 u2:=Dn.trans' k2 (fun j hj e=>by omega);have SF:=KS _ Xp;refine⟨SF,?_⟩
   try simp only[ag,af]
   refine aC ?_;have WZ:Hid (Sm u1 u2):=Xp;have Zy:Hid _:=gg2;have HB2:Hid _:=hb2;clear S0 SC SA SF KS VU Dn Xp wI gg2 k2 hb2 G6;go_wp2_with fail;go_meet;exact⟨s2,w2.heap.size,rfl,HB2.o,z2,rfl,Zy.o,WZ.o,by omega⟩
  ·refine dI ?_;refine Cf 6 rfl rfl ?_;have G6:(({u1 with drawn:=u1.drawn+1}:World).alloc (.cells #[.bool false,.bool false,.bool false,.int .i64 0,.int .i64 0] 80)).heap[({u1 with drawn:=u1.drawn+1}:World).heap.size]? =some (.cells #[.bool false,.bool false,.bool false,.int .i64 0,.int .i64 0] 80 (0,0)):=bV _ _;have Dn:Sm u1 (({u1 with drawn:=u1.drawn+1}:World).alloc (.cells #[.bool false,.bool false,.bool false,.int .i64 0,.int .i64 0] 80)):=Ct.alloc _;have SA:=KS _ Dn;have hg6:u1.heap.size≤({u1 with drawn:=u1.drawn+1}:World).heap.size:=Ct.size;refine⟨SA,?_⟩
   try simp only[ag,af]
   refine av 6 ?_;refine pJ (aad.o (({u1 with drawn:=u1.drawn+1}:World).alloc (.cells #[.bool false,.bool false,.bool false,.int .i64 0,.int .i64 0] 80)) (Gh.o.trans Dn)) ?_;rintro v28 w2 ⟨s2,rfl,hb2,z2,wI⟩;have VU:Sm u1 w2:=Dn.trans wI;have SC:=KS _ VU;have G6c:=(wI.block _ (aK G6) id).trans G6;refine⟨SC,?_⟩
   try simp only[ag,af]
   refine aj 7 SC ?_;refine aj 8 SC ?_ (v:=.string s2);refine aj 9 SC ?_ (v:=.agg (aW q2));refine aj 11 SC ?_;simp only[ag,af];refine av 12 ?_;refine uo 80 (.tmp 6) (.tmp 30) rfl rfl (({u1 with drawn:=u1.drawn+1}:World).heap.size) [.bool false,.bool false,.bool false,.int .i64 0,.int .i64 0] (dG q2) rfl rfl 80 G6c rfl eH (jq _) ?_;intro u2 gg2 k2;have Xp:Sm u1 u2:=VU.trans' k2 (fun j hj e=>by omega);have SF:=KS _ Xp;refine⟨SF,?_⟩
   try simp only[ag,af]
   refine aC ?_;have WZ:Hid (Sm u1 u2):=Xp;have Zy:Hid _:=gg2;have HB2:Hid _:=hb2;clear S0 SC SA SF KS VU Dn Xp wI gg2 k2 hb2 G6 G6c;go_wp2_with fail;go_meet;exact⟨s2,({u1 with drawn:=u1.drawn+1}:World).heap.size,rfl,HB2.o,z2,rfl,Zy.o,WZ.o,by omega⟩
 case rest=>
  generalize hwc:wc=w3 at*;clear hwc wc;obtain⟨s2,g6,rfl,hb2,z2,rfl,hg6,FW,ai8⟩:=hcut;have HB2:Hid _:=hb2;have Zy:Hid _:=hg6;have WX:Hid (Sm u1 w3):=FW;have Xc:Hid (Sm w w3):=Gh.o.trans FW;have Z_:Hid (w3.heap[g4]? =some (.cells (aW q1) 80 (0,0))):=(FW.block _ (aK MC.o) id).trans MC.o;have h46:g4<g6:=by have:=aK MC.o;omega
  have T3:=HT.o _ Xc.o;have c20:w3.cell? ⟨tb,20,none⟩=some (.int .i64 d.t.shown):=T3.c 20 _ rfl;clear hb2 hg6 FW T3;have hsh:d.t.shown=0∨d.t.shown=1:=iV.o.inv.sh;have hne:=Sd s2 t2 HB2.o;have HNE:Hid _:=hne;go_upto_region 3 with fail;go_cut [40] from 31 to 39 (fun s40 wc=>s40= .bool (decide (d.t.shown=1∨t2≠[]))∧wc=w3)
  case first=>
   clear hne;rcases hsh with hs|hs
   ·rw[hs]at c20;have HS:Hid _:=hs;clear hs;go_wp2_with fail;go_meet;refine⟨?_,rfl⟩;rw[HNE.o,HS.o]
    congr 1
    simp
   ·rw[hs]at c20;have HS:Hid _:=hs;clear hs;go_wp2_with fail;go_meet;refine⟨?_,rfl⟩;rw[HS.o];simp
  case rest=>
   generalize hwc:wc=wq at*;clear hwc wc;obtain⟨rfl,hwq⟩:=hcut;have xz:=hwq.symm;subst xz;clear hwq hne;go_upto_if 40 with fail;go_cut [3] from 40 to 55 (fun s3 wc=>∃s:ByteArray,s3= .string s∧bl s=uZ d t1 t2∧s.size≤45000∧wc.heap[g4]? =some (.cells (aW (qh d t2 q1 q2)) 80 (0,0))∧Ch (· =g4) w3 wc)
   case first=>
    have e1:bl (⟨#[27,91]⟩:ByteArray)=[27,91]:=by kernel_rfl
    have e2:bl (⟨#[63,52,55,104]⟩:ByteArray)=[63,52,55,104]:=by kernel_rfl
    have e3:bl (⟨#[63,52,55,108]⟩:ByteArray)=[63,52,55,108]:=by kernel_rfl
    by_cases hcd:d.t.shown=1∨t2≠[]
    ·have HQ:Hid (qh d t2 q1 q2=q2):=by show _=_;unfold qh;rw[ak hcd]
     have HTX:Hid (uZ d t1 t2=t1++[27,91,63,52,55,104]++t2++(if d.t.shown=0 then[27,91,63,52,55,108]else[])):=by show _=_;unfold uZ;rw[ak hcd]
     rw[iP hcd];clear hcd;go_upto_region 6 with(first|(refine fC rfl 80 (.tmp 6) rfl g6 rfl 80 (aW q2) (0,0) _ Zy.o underlying80 rfl eH ?_)|(refine bK _ rfl 80 (.tmp 4) (.tmp 46) rfl g4 (dG q1) (dG q2) rfl _ rfl rfl 80 Z_.o rfl eH (jq _) ?_;intro u5 g5 k5 z5;have Zx:Hid (u5.heap[g4]? =some (.cells (aW q2) 80 (0,0))):=g5;have Jg:Hid (Ch (· =g4) w3 u5):=k5;clear g5 k5 z5));have f20:u5.cell? ⟨tb,20,none⟩=some (.int .i64 d.t.shown):=(dA (Jg.o.block tb (by have:=Xc.o.size;omega) (by omega))).trans c20;clear c20;rcases hsh with hs|hs
     ·rw[hs]at f20;have HS:Hid _:=hs;clear hs;go_wp2_with fail;go_meet;refine⟨_,rfl,?_,?_,by rw[HQ.o];exact Zx.o,Jg.o⟩
      ·rw[aL,aL,aL,aL,aL,HB1.o,HB2.o,e1,e2,e3,HTX.o,ak HS.o];simp
      ·simp only[iC];show _+2+4+_+2+4≤_;omega
     ·rw[hs]at f20;have HS:Hid _:=hs;clear hs;go_wp2_with fail;go_meet;refine⟨_,rfl,?_,?_,by rw[HQ.o];exact Zx.o,Jg.o⟩
      ·rw[aL,aL,aL,HB1.o,HB2.o,e1,e2,HTX.o,HS.o];simp
      ·simp only[iC];show _+2+4+_≤_;omega
    ·have HQ:Hid (qh d t2 q1 q2=q1):=by show _=_;unfold qh;rw[ai hcd]
     have HTX:Hid (uZ d t1 t2=t1):=by show _=_;unfold uZ;rw[ai hcd]
     rw[jh hcd];clear hcd;go_wp2_with fail;go_meet;exact⟨_,rfl,by rw[HB1.o,HTX.o],by omega,by rw[HQ.o];exact Z_.o,Ch.refl _ _⟩
   case rest=>
    generalize hwc:wc=w4 at*;clear hwc wc;obtain⟨s3,rfl,hb3,z3,hg3,hk3⟩:=hcut;have HB3:Hid _:=hb3;have yY:Hid _:=hg3;have T_:Hid (Sm w w4):=Xc.o.trans' hk3 (fun j hj e=>by omega);clear hb3 hg3 hk3 c20 HNE;obtain⟨L,hL⟩:∃L,L=d.abs.tabs:=⟨_,rfl⟩;have UR:d.t.ah≤40:=iV.o.inv.c2;have htl:=iV.o.tl;have hLl:L.length=d.t.ah:=by rw[hL];show(d.tb.take d.t.ah).length=_;rw[kg];omega
    have V4:∀k,k<d.t.ah→L[k]? =some (d.tb.getD k false):=fun k hk=>by rw[hL];show(d.tb.take d.t.ah)[k]? =_;rw[mJ,ak hk];simp[List.getD,eG (show k<d.tb.length by omega)]
    have HLG:Hid _:=V4;have HL:Hid _:=hL;obtain⟨Y,hY⟩:∃Y:Nat→WS,Y=fun k=>WS.l_ ⟨[27,91,51,103],mO⟩ 0 (L.take k):=⟨_,rfl⟩;obtain⟨B,hB⟩:∃B:Nat→Bool,B=fun k=>WS.lg 0 (L.take k):=⟨_,rfl⟩;have HYS:Hid (∀k b,L[k]? =some b→Y (k+1)=(Y k).uE k b):=fun k b h=>by rw[hY];have h9:=B_ L ⟨[27,91,51,103],mO⟩ 0 k b h;rw[lH]at h9;exact h9
    have Tv:Hid (∀k b,L[k]? =some b→B (k+1)=(B k&&decide (b=WS.nR k))):=fun k b h=>by rw[hB];have h9:=KT L 0 k b h;rw[lH]at h9;exact h9
    have HY0:Hid ((Y 0).tx=[27,91,51,103]):=by show _=_;rw[hY];rfl
    have HB0:Hid (B 0=true):=by show _=_;rw[hB];rfl
    have HYL:Hid (∀k,(Y k).tx.length≤300):=fun k=>by have h9:=zP (L.take k) ⟨[27,91,51,103],mO⟩ 0;rw[hY];show(WS.l_ _ 0 (L.take k)).tx.length≤_;have h8:=List.length_take_le' k L;have h7:(⟨[27,91,51,103],mO⟩:WS).tx.length=4:=rfl;omega
    have HYE:Hid (Y d.t.ah=WS.l_ ⟨[27,91,51,103],mO⟩ 0 d.abs.tabs∧B d.t.ah=WS.lg 0 d.abs.tabs):=by rw[hY,hB, ←HL.o, ←hLl];exact⟨by simp,by simp⟩
    clear hY hB V4 hL;go_wp2_with fail;go_loopw [7,8,9] (fun s7 s8 s9 wr=>∃(k:Nat) (st:ByteArray),k≤d.t.ah∧s9= .int .i64 k∧s7= .string st∧bl st=(Y k).tx∧s8= .bool (B k)∧Sm w4 wr) (fun _ _ s9 _=>d.t.ah-(intOf s9).toNat)
    case atStart=>exact⟨0,⟨#[27,91,51,103]⟩,dx _,rfl,rfl,by rw[HY0.o];kernel_rfl,by rw[HB0.o],Ch.refl _ _⟩
    case round=>
     obtain⟨k,st,hk,rfl,rfl,Yp,rfl,smr⟩:=hrel;have TR:=HT.o wr (T_.o.trans smr);have c1:=TR.gX;have zst:st.size≤300:=by rw[←cZ,Yp];exact HYL.o k
     have Wu:Hid _:=Yp;have TT:Hid _:=smr;clear Yp smr;by_cases hlt:k<d.t.ah
     ·have ik:(k:Int)<(d.t.ah:Int):=by omega
      have i40:(k:Int)<40:=by omega
      have vk:IntKind.i64.wrap ((k:Int)+1)=(k:Int)+1:=bD _ (by omega);have ct:=TR.aaX htl k (by omega);obtain⟨Zm,acg⟩:∃x,d.tb.getD k false=x:=⟨_,rfl⟩;have hLk:=HLG.o k hlt;rw[acg]at ct hLk;have HBK:Hid _:=Tv.o k Zm hLk;have Ta:Hid _:=HYS.o k Zm hLk;clear TR acg hLk;go_upto_region 13 with fail;go_cut [8] from 64 to 80 (fun s8 wc=>s8= .bool (B (k+1))∧wc=wr)
      case first=>
       have hm:k % 8=0↔(k:Int) % 8=0:=by omega
       have HM:Hid _:=hm;cases UN:B k with
       |false=>have VG:Hid _:=UN;clear UN hm;go_wp2_with fail;go_meet;refine⟨?_,rfl⟩;rw[HBK.o,VG.o];rfl
       |true=>
        have VG:Hid _:=UN;clear UN hm;by_cases hk0:k=0
        ·subst hk0;go_wp2_with fail;go_meet;refine⟨?_,rfl⟩;rw[HBK.o,VG.o];cases Zm<;>rfl
        ·have i0:(0:Int)<(k:Int):=by omega
         have De:Hid _:=hk0;clear hk0;go_wp2_with fail;go_meet;refine⟨?_,rfl⟩;rw[HBK.o,VG.o];have h8:=HM.o;have h7:0<k:=by have:=De.o;omega
         unfold WS.nR
         congr 1
         by_cases hz:k % 8=0
         ·have hz':=h8.1 hz;cases Zm<;>simp[hz,hz',h7]
         ·have hz':¬(k:Int) % 8=0:=fun x=>hz (h8.2 x);cases Zm<;>simp[hz,hz',h7]
      case rest=>
       generalize hwc:wc=wq at*;clear hwc wc;obtain⟨rfl,hwq⟩:=hcut;have xz:=hwq.symm;subst xz;clear hwq;have vk2:IntKind.i64.wrap ((k:Int)+1)=((k+1:Nat):Int):=by rw[vk];omega
       have eA:bl (⟨#[27,91]⟩:ByteArray)=[27,91]:=by kernel_rfl
       have eB:bl (⟨#[71,27,72]⟩:ByteArray)=[71,27,72]:=by kernel_rfl
       cases htk:Zm with
       |true=>
        have HTK:Hid _:=htk;rw[htk]at ct;clear htk vk;go_wp2_with fail;refine(yj (k+1) (by omega) _).mono ?_;rintro e w5 ⟨sd,rfl,hsd,KH⟩;have zsd:sd.size≤2:=by rw[←cZ,hsd];unfold jB;split<;>simp
        have HSD:Hid _:=hsd;have TN:Hid (Sm w4 w5):=TT.o.trans KH;clear hsd KH;go_wp2_with fail;go_roundw
        case rel=>refine⟨k+1,_,by omega,by go_num,rfl,?_,rfl,TN.o⟩;rw[aL,aL,aL,Wu.o,HSD.o,eA,eB,Ta.o,HTK.o];unfold WS.uE WS.seq WS.put;simp
        case measure=>simp[intOf];omega
       |false=>
        have HTK:Hid _:=htk;rw[htk]at ct;clear htk;go_wp2_with fail;go_roundw
        case rel=>exact⟨k+1,st,by omega,by go_num,rfl,by rw[Ta.o,HTK.o];exact Wu.o,rfl,TT.o⟩
        case measure=>simp[intOf];omega
     ·have ik:decide ((k:Int)<(d.t.ah:Int))=false:=by simp;omega
      obtain rfl:k=d.t.ah:=by omega
      clear TR;obtain⟨T4,OM⟩:∃T,T=uZ d t1 t2++(if B d.t.ah=true then[]else(Y d.t.ah).tx):=⟨_,rfl⟩;have rV:Hid _:=OM;go_upto_if 95 with fail;go_cut [3,8] from 94 to 98 (fun s3' s8' wc=>∃s:ByteArray,s3'= .string s∧bl s=T4∧s.size≤46000∧wc=wr)
      case first=>
       cases UN:B d.t.ah with
       |true=>have VG:Hid _:=UN;clear UN OM;go_wp2_with fail;go_meet;exact⟨_,rfl,by rw[HB3.o,rV.o,ak VG.o,gp],by omega,rfl⟩
       |false=>
        have VG:Hid _:=UN;clear UN OM;go_wp2_with fail;go_meet;refine⟨_,rfl,?_,?_,rfl⟩
        ·rw[aL,HB3.o,Wu.o,rV.o,ai (by rw[VG.o];decide)]
        ·rw[iC];omega
      case rest=>
       generalize hwc:wc=wq at*;clear hwc wc;obtain⟨s4,rfl,hb4,z4,hwq⟩:=hcut;have xz:=hwq.symm;subst xz;have Ja:Hid _:=hb4;clear hwq hb4 OM ik c1;have aal:Hid (Sm w wr):=T_.o.trans TT.o;have Je:Hid (wr.heap[g4]? =some (.cells (aW (qh d t2 q1 q2)) 80 (0,0))):=(TT.o.block _ (aK yY.o) id).trans yY.o;have TR:=HT.o wr aal.o;have c16:=TR.rY;have c17:=TR.qG;have c0:=TR.qH;have ajb:d.t.rows≤12:=iV.o.inv.r2;have hr1:1≤d.t.rows:=iV.o.inv.r1;obtain⟨tp,htp⟩:∃n:Nat,d.t.top=(n:Int):=⟨d.t.top.toNat,by have:0≤d.t.top:=iV.o.inv.iO;omega⟩;obtain⟨bt,hbt⟩:∃n:Nat,d.t.bottom=(n:Int):=⟨d.t.bottom.toNat,by have a1:0≤d.t.top:=iV.o.inv.iO;have a2:d.t.top≤d.t.bottom:=iV.o.inv.tb;omega⟩;have ai3:bt<d.t.rows:=by have:d.t.bottom<(d.t.rows:Int):=iV.o.inv.bot;omega
       have ajg:tp≤bt:=by have a2:d.t.top≤d.t.bottom:=iV.o.inv.tb;omega
       rw[htp]at c16;rw[hbt]at c17;have HTP:Hid _:=htp;have Zo:Hid _:=hbt;have vr1:IntKind.i64.wrap ((d.t.rows:Int)-1)=(d.t.rows:Int)-1:=bD _ (by omega);clear TR htp hbt;go_upto_region 18 with fail;go_cut [117] from 99 to 116 (fun s117 wc=>s117= .bool (decide ((tp:Int)≠0∨(bt:Int)≠(d.t.rows:Int)-1))∧Sm wr wc)
       case first=>
        by_cases h0:tp=0
        ·subst h0;go_quiet (fail);go_wp2_with fail;go_meet;refine⟨?_,(Ch.refl _ _).drewN _⟩
         congr 1
         by_cases hbb:(bt:Int)=(d.t.rows:Int)-1
         ·simp[hbb]
         ·simp[hbb]
        ·have b0:((tp:Int) != 0)=true:=by simp;omega
         have H0:Hid ((tp:Int)≠0):=by show _≠_;omega
         clear h0;go_quiet (fail);go_wp2_with fail;go_meet;exact⟨by rw[iP (Or.inl H0.o)],(Ch.refl _ _).drewN _⟩
       case rest=>
        generalize hwc:wc=w5 at*;clear hwc wc;obtain⟨rfl,KH⟩:=hcut;have aaj:Hid (Sm w w5):=aal.o.trans KH;have Zx:Hid (w5.heap[g4]? =some (.cells (aW (qh d t2 q1 q2)) 80 (0,0))):=(KH.block _ (aK Je.o) id).trans Je.o;clear KH c16 c17 c0 vr1;obtain⟨T5,Tg⟩:∃T,T=T4++(if(tp:Int)≠0∨(bt:Int)≠(d.t.rows:Int)-1 then[27,91]++(lY tp bt++[114])else[]):=⟨_,rfl⟩;have Am:Hid _:=Tg;clear Tg;go_upto_if 117 with fail;go_cut [3] from 117 to 137 (fun s3' wc=>∃s:ByteArray,s3'= .string s∧bl s=T5∧s.size≤46020∧Sm w5 wc)
        case first=>
         by_cases hcd:(tp:Int)≠0∨(bt:Int)≠(d.t.rows:Int)-1
         ·rw[iP hcd];have VH:Hid _:=hcd;clear hcd;have vt:IntKind.i64.wrap ((tp:Int)+1)=((tp+1:Nat):Int):=by rw[show(tp:Int)+1=((tp+1:Nat):Int) by omega];exact bD _ (by omega)
          have vb:IntKind.i64.wrap ((bt:Int)+1)=((bt+1:Nat):Int):=by rw[show(bt:Int)+1=((bt+1:Nat):Int) by omega];exact bD _ (by omega)
          go_wp2_with fail;have KS:∀y,Sm w5 y→y.cell? ⟨tb,16,none⟩=some (.int .i64 (tp:Int))∧y.cell? ⟨tb,17,none⟩=some (.int .i64 (bt:Int)):=fun y hy=>by have TY:=HT.o y (aaj.o.trans hy);exact⟨by rw[←HTP.o];exact TY.rY,by rw[←Zo.o];exact TY.qG⟩
          have Ct:Sm w5 ({w5 with drawn:=w5.drawn+1}:World):=(Ch.refl _ _).drewN 1;have S0:=KS _ Ct;refine dX (S:=fun x=>x.cell? ⟨tb,16,none⟩=some (.int .i64 (tp:Int))∧x.cell? ⟨tb,17,none⟩=some (.int .i64 (bt:Int))) aX ?_;refine dH 0 2 11 S0 ?_;refine aj 1 S0 ?_ (v:=.string (s4++⟨#[27,91]⟩));simp only[ag,af];refine ay 3 12 4 13 S0 ?_;simp only[ag,af];refine ay 5 14 6 15 S0 ?_;simp only[ag,af];refine aj 7 S0 ?_ (v:=.int .i64 ((tp+1:Nat):Int));refine aj 16 S0 ?_ (v:=.int .i64 ((bt+1:Nat):Int));simp only[ag,af];refine av 8 ?_;refine pJ (vs:=[.int .i64 ((tp+1:Nat):Int)]) (yj (tp+1) (by omega) _) ?_;rintro vA wA ⟨sdA,rfl,Yx,smA⟩;have Dn:Sm w5 wA:=Ct.trans smA;have SA:=KS _ Dn;have zdA:sdA.size≤2:=by rw[←cZ,Yx];unfold jB;split<;>simp
          refine⟨SA,?_⟩
          try simp only[ag,af]
          refine aj 9 SA ?_ (v:=.string (s4++⟨#[27,91]⟩++sdA));refine aj 10 SA ?_ (v:=.string (s4++⟨#[27,91]⟩++sdA++⟨#[59]⟩));simp only[ag,af];refine av 17 ?_;refine pJ (vs:=[.int .i64 ((bt+1:Nat):Int)]) (yj (bt+1) (by omega) _) ?_;rintro vB wB ⟨sdB,rfl,Yy,I8⟩;have SMB:Sm w5 wB:=Dn.trans I8;have SB:=KS _ SMB;have zdB:sdB.size≤2:=by rw[←cZ,Yy];unfold jB;split<;>simp
          refine⟨SB,?_⟩
          try simp only[ag,af]
          refine aj 18 SB ?_ (v:=.string (s4++⟨#[27,91]⟩++sdA++⟨#[59]⟩++sdB));refine aj 19 SB ?_ (v:=.string (s4++⟨#[27,91]⟩++sdA++⟨#[59]⟩++sdB++⟨#[114]⟩));refine aj 20 SB ?_;simp only[ag,af];refine aC ?_;have aea:Hid _:=Yx;have aeb:Hid _:=Yy;have WW:Hid (Sm w5 wB):=SMB;clear S0 SA SB KS Dn SMB Ct smA I8 Yx Yy;go_wp2_with fail;go_meet;refine⟨_,rfl,?_,?_,WW.o⟩
          ·have eA:bl (⟨#[27,91]⟩:ByteArray)=[27,91]:=by kernel_rfl
           have eB:bl (⟨#[59]⟩:ByteArray)=[59]:=by kernel_rfl
           have eC:bl (⟨#[114]⟩:ByteArray)=[114]:=by kernel_rfl
           rw[aL,aL,aL,aL,aL,Ja.o,aea.o,aeb.o,eA,eB,eC,Am.o,ak VH.o];unfold lY;simp
          ·simp only[iC];show _+2+_+1+_+1≤_;omega
         ·rw[jh hcd];have VH:Hid _:=hcd;clear hcd;go_wp2_with fail;go_meet;exact⟨_,rfl,by rw[Ja.o,Am.o,ai VH.o,gp],by omega,Ch.refl _ _⟩
        case rest=>
         generalize hwc:wc=w6 at*;clear hwc wc;obtain⟨s5,rfl,hb5,z5,YY⟩:=hcut;have Jb:Hid _:=hb5;have aeh:Hid (Sm w w6):=aaj.o.trans YY;have Zz:Hid (w6.heap[g4]? =some (.cells (aW (qh d t2 q1 q2)) 80 (0,0))):=(YY.block _ (aK Zx.o) id).trans Zx.o;clear hb5 YY;go_upto_region 21 with(refine bK _ rfl 82 (.tmp 10) (.tmp 138) rfl w6.heap.size [.int .i64 0,.int .i64 0,.bool false,.bool false,.bool false,.bool false,.int .i64 0,.int .i64 0,.int .i64 0,.int .i64 0,.int .i64 0,.bool false] (aB aY) rfl _ rfl rfl 82 (bV _ _) rfl bH (iM _) ?_;intro u7 g7 k7 z7;have HS7:Hid (Sm w6 u7):=Sm.fresh k7;have HN7:Hid (u7.heap[w6.heap.size]? =some (.cells (aB aY).toArray 82 (0,0))):=g7;clear g7 k7 z7);obtain⟨g10,Yr⟩:∃g,g=w6.heap.size:=⟨_,rfl⟩;have ZZ:Hid (u7.heap[g10]? =some (.cells (aB aY).toArray 82 (0,0))):=by show _=_;rw[Yr];exact HN7.o
         rw[←Yr];clear Yr HN7;have aak:Hid (Sm w u7):=aeh.o.trans HS7.o;have ZA:Hid (u7.heap[g4]? =some (.cells (aW (qh d t2 q1 q2)) 80 (0,0))):=(HS7.o.block _ (aK Zz.o) id).trans Zz.o;have hne5:=Sd s5 T5 Jb.o;have Z5:Hid _:=hne5;clear hne5
         (try go_simp)
         go_cut [149] from 139 to 148 (fun s149 wc=>s149= .bool (decide (T5≠[]∨d.t.spot≠aY))∧Sm u7 wc)
         case first=>
          by_cases h5:T5=[]
          ·have b5:s5.toList.isEmpty=true:=by have h9:=Z5.o;rw[jh (by simp[h5])]at h9;simpa using h9
           have H5:Hid _:=h5;clear h5;go_wp2_with fail;have KS:∀y,Sm u7 y→y.rangeAt tb 4 (aB d.t.spot)∧y.heap[g10]? =some (.cells (aB aY).toArray 82 (0,0)):=fun y hy=>⟨(HT.o y (aak.o.trans hy)).range 4 _ rfl,(hy.block _ (aK ZZ.o) id).trans ZZ.o⟩;have Ct:Sm u7 ({u7 with drawn:=u7.drawn+1}:World):=(Ch.refl _ _).drewN 1;have S0:=KS _ Ct;refine dX (S:=fun x=>x.rangeAt tb 4 (aB d.t.spot)∧x.heap[g10]? =some (.cells (aB aY).toArray 82 (0,0))) aX ?_;refine aj 0 S0 ?_;refine aj 1 S0 ?_ (v:=.bool false);refine dW 2 3 S0 ?_;simp only[ag,af];refine aj 8 S0 ?_ (v:=.agg (aB aY).toArray) (hy:=(kz (by rfl) 82 (.tmp 10) rfl g10 0 rfl (aB aY) _ (fun x h=>fK h.2) underlying82 rfl bH));refine dH 4 5 6 S0 ?_;simp only[ag,af];refine aj 7 S0 ?_ (v:=.agg (aB d.t.spot).toArray) (hy:=(kz (by rfl) 82 (.tmp 145) rfl tb 4 rfl (aB d.t.spot) _ (fun x h=>h.1) underlying82 rfl bH));simp only[ag,af];refine aj 9 S0 ?_ (v:=.bool (!decide (d.t.spot=aY))) (hy:=(Or.inl ⟨by rfl,fun y _=>NZ (.tmp 146) (.tmp 147) rfl d.t.spot aY rfl rfl y⟩));refine aj 10 S0 ?_ (v:=.bool (!decide (d.t.spot=aY)));simp only[ag,af];refine aC ?_;clear S0 KS Ct;go_wp2_with fail;go_meet;refine⟨?_,(Ch.refl _ _).drewN 1⟩;by_cases hsp:d.t.spot=aY
           ·rw[iP hsp,jh (by rintro(x|x);exact x H5.o;exact x hsp)];rfl
           ·rw[jh hsp,iP (Or.inr hsp)];rfl
          ·have b5:s5.toList.isEmpty=false:=by have h9:=Z5.o;rw[iP (by simp[h5])]at h9;simpa using h9
           have H5:Hid _:=h5;clear h5;go_quiet (fail);go_wp2_with fail;go_meet;exact⟨by rw[iP (show T5≠[]∨d.t.spot≠aY from Or.inl H5.o)],(Ch.refl _ _).drewN _⟩
         case rest=>
          generalize hwc:wc=w8 at*;clear hwc wc;obtain⟨rfl,RV⟩:=hcut;have PG:Hid (Sm w w8):=aak.o.trans RV;have ZB:Hid (w8.heap[g4]? =some (.cells (aW (qh d t2 q1 q2)) 80 (0,0))):=(RV.block _ (aK ZA.o) id).trans ZA.o;clear RV;obtain⟨T6,Ti⟩:∃T,T=T5++(if T5≠[]∨d.t.spot≠aY then tS else[]):=⟨_,rfl⟩;have xR:Hid _:=Ti;clear Ti;obtain⟨q3,hq3⟩:∃q,q=qh d t2 q1 q2:=⟨_,rfl⟩;have SX:Hid (w8.heap[g4]? =some (.cells (aW q3) 80 (0,0))):=by show _=_;rw[hq3];exact ZB.o
          have TV:Hid (∀u,Sm w u→Calls prog 68 #[.agg (aT (if d.t.shown=0 then v0 else v1) (if d.t.shown=0 then d.t.v0 else d.t.v1)).toArray,.agg (aB d.t.spot).toArray,.int .i64 (tp:Int),.agg (aW q3)] u fun e w'=>∃s:ByteArray,e= .returned (.string s)∧bl s=tS∧s.size≤200∧Sm u w'):=fun u hu=>by have h9:=SPH u hu;rw[HTP.o, ←hq3]at h9;exact h9
          clear hq3 ZB;go_upto_if 149 with fail;go_cut [3] from 149 to 173 (fun s3' wc=>∃s:ByteArray,s3'= .string s∧bl s=T6∧s.size≤46300∧Sm w8 wc)
          case first=>
           by_cases hcd:T5≠[]∨d.t.spot≠aY
           ·rw[iP hcd];have VH:Hid _:=hcd;clear hcd;go_wp2_with fail;rcases hsh with hs|hs
            ·have PE:Hid (∀u,Sm w u→Calls prog 68 #[.agg (aT v0 d.t.v0).toArray,.agg (aB d.t.spot).toArray,.int .i64 (tp:Int),.agg (aW q3)] u fun e w'=>∃s:ByteArray,e= .returned (.string s)∧bl s=tS∧s.size≤200∧Sm u w'):=fun u hu=>by have h9:=TV.o u hu;rw[ak hs,ak hs]at h9;exact h9
             have KS:∀y,Sm w8 y→y.cell? ⟨tb,20,none⟩=some (.int .i64 0)∧y.rangeAt tb 21 (aT v0 d.t.v0)∧y.rangeAt tb 4 (aB d.t.spot)∧y.cell? ⟨tb,16,none⟩=some (.int .i64 (tp:Int))∧y.heap[g4]? =some (.cells (aW q3) 80 (0,0)):=fun y hy=>by have TY:=HT.o y (PG.o.trans hy);exact⟨by rw[←hs];exact TY.c 20 _ rfl,TY.range 21 _ rfl,TY.range 4 _ rfl,by rw[←HTP.o];exact TY.rY,(hy.block _ (aK SX.o) id).trans SX.o⟩
             have Ct:Sm w8 ({w8 with drawn:=w8.drawn+1}:World):=(Ch.refl _ _).drewN 1;have S0:=KS _ Ct;clear hs;refine dX (S:=fun x=>x.cell? ⟨tb,20,none⟩=some (.int .i64 0)∧x.rangeAt tb 21 (aT v0 d.t.v0)∧x.rangeAt tb 4 (aB d.t.spot)∧x.cell? ⟨tb,16,none⟩=some (.int .i64 (tp:Int))∧x.heap[g4]? =some (.cells (aW q3) 80 (0,0))) aX ?_;refine ay 0 1 2 11 S0 ?_;simp only[ag,af];refine aj 16 S0 ?_;simp only[ag,af];refine aj 21 S0 ?_ (v:=.agg (aW q3)) (hy:=(kz (by rfl) 80 (.tmp 4) rfl g4 0 rfl (dG q3) _ (fun x h=>fK h.2.2.2.2) underlying80 rfl eH));refine dH 3 7 12 S0 ?_;simp only[ag,af];refine ay 17 4 8 13 S0 ?_;simp only[ag,af];refine ay 18 5 14 19 S0 ?_;simp only[ag,af];refine aj 6 S0 ?_;simp only[ag,af];refine aj 15 S0 ?_ (v:=.agg (aB d.t.spot).toArray) (hy:=(kz (by rfl) 82 (.tmp 164) rfl tb 4 rfl (aB d.t.spot) _ (fun x h=>h.2.2.1) underlying82 rfl bH));refine aj 20 S0 ?_;refine aj 9 S0 ?_ (v:=.pointer (some ⟨tb,21,none⟩));simp only[ag,af];refine aj 10 S0 ?_ (v:=.agg (aT v0 d.t.v0).toArray) (hy:=(kz (by rfl) 87 (.tmp 159) rfl tb 21 rfl (aT v0 d.t.v0) _ (fun x h=>h.2.1) underlying87 rfl jP));simp only[ag,af];refine av 22 ?_;refine pJ (vs:=[.agg (aT v0 d.t.v0).toArray,.agg (aB d.t.spot).toArray,.int .i64 (tp:Int),.agg (aW q3)]) (PE.o _ (PG.o.trans Ct)) ?_;rintro v172 wA ⟨sd,rfl,hsd,zsd,smA⟩;have Dn:Sm w8 wA:=Ct.trans smA;have SA:=KS _ Dn;refine⟨SA,?_⟩
             try simp only[ag,af]
             refine aj 23 SA ?_ (v:=.string (s5++sd));refine aj 24 SA ?_;simp only[ag,af];refine aC ?_;have HSD:Hid _:=hsd;have WY:Hid (Sm w8 wA):=Dn;clear S0 SA KS Ct Dn smA hsd;go_wp2_with fail;go_meet;refine⟨_,rfl,?_,?_,WY.o⟩
             ·rw[aL,Jb.o,HSD.o,xR.o,ak VH.o]
             ·rw[iC];omega
            ·have PE:Hid (∀u,Sm w u→Calls prog 68 #[.agg (aT v1 d.t.v1).toArray,.agg (aB d.t.spot).toArray,.int .i64 (tp:Int),.agg (aW q3)] u fun e w'=>∃s:ByteArray,e= .returned (.string s)∧bl s=tS∧s.size≤200∧Sm u w'):=fun u hu=>by have h9:=TV.o u hu;rw[ai (by omega),ai (by omega)]at h9;exact h9
             have KS:∀y,Sm w8 y→y.cell? ⟨tb,20,none⟩=some (.int .i64 1)∧y.rangeAt tb 34 (aT v1 d.t.v1)∧y.rangeAt tb 4 (aB d.t.spot)∧y.cell? ⟨tb,16,none⟩=some (.int .i64 (tp:Int))∧y.heap[g4]? =some (.cells (aW q3) 80 (0,0)):=fun y hy=>by have TY:=HT.o y (PG.o.trans hy);exact⟨by rw[←hs];exact TY.c 20 _ rfl,TY.range 34 _ rfl,TY.range 4 _ rfl,by rw[←HTP.o];exact TY.rY,(hy.block _ (aK SX.o) id).trans SX.o⟩
             have Ct:Sm w8 ({w8 with drawn:=w8.drawn+1}:World):=(Ch.refl _ _).drewN 1;have S0:=KS _ Ct;clear hs;refine dX (S:=fun x=>x.cell? ⟨tb,20,none⟩=some (.int .i64 1)∧x.rangeAt tb 34 (aT v1 d.t.v1)∧x.rangeAt tb 4 (aB d.t.spot)∧x.cell? ⟨tb,16,none⟩=some (.int .i64 (tp:Int))∧x.heap[g4]? =some (.cells (aW q3) 80 (0,0))) aX ?_;refine ay 0 1 2 11 S0 ?_;simp only[ag,af];refine aj 16 S0 ?_;simp only[ag,af];refine aj 21 S0 ?_ (v:=.agg (aW q3)) (hy:=(kz (by rfl) 80 (.tmp 4) rfl g4 0 rfl (dG q3) _ (fun x h=>fK h.2.2.2.2) underlying80 rfl eH));refine dH 3 7 12 S0 ?_;simp only[ag,af];refine ay 17 4 8 13 S0 ?_;simp only[ag,af];refine ay 18 5 14 19 S0 ?_;simp only[ag,af];refine aj 6 S0 ?_;simp only[ag,af];refine aj 15 S0 ?_ (v:=.agg (aB d.t.spot).toArray) (hy:=(kz (by rfl) 82 (.tmp 164) rfl tb 4 rfl (aB d.t.spot) _ (fun x h=>h.2.2.1) underlying82 rfl bH));refine aj 20 S0 ?_;refine aj 9 S0 ?_ (v:=.pointer (some ⟨tb,34,none⟩));simp only[ag,af];refine aj 10 S0 ?_ (v:=.agg (aT v1 d.t.v1).toArray) (hy:=(kz (by rfl) 87 (.tmp 159) rfl tb 34 rfl (aT v1 d.t.v1) _ (fun x h=>h.2.1) underlying87 rfl jP));simp only[ag,af];refine av 22 ?_;refine pJ (vs:=[.agg (aT v1 d.t.v1).toArray,.agg (aB d.t.spot).toArray,.int .i64 (tp:Int),.agg (aW q3)]) (PE.o _ (PG.o.trans Ct)) ?_;rintro v172 wA ⟨sd,rfl,hsd,zsd,smA⟩;have Dn:Sm w8 wA:=Ct.trans smA;have SA:=KS _ Dn;refine⟨SA,?_⟩
             try simp only[ag,af]
             refine aj 23 SA ?_ (v:=.string (s5++sd));refine aj 24 SA ?_;simp only[ag,af];refine aC ?_;have HSD:Hid _:=hsd;have WY:Hid (Sm w8 wA):=Dn;clear S0 SA KS Ct Dn smA hsd;go_wp2_with fail;go_meet;refine⟨_,rfl,?_,?_,WY.o⟩
             ·rw[aL,Jb.o,HSD.o,xR.o,ak VH.o]
             ·rw[iC];omega
           ·rw[jh hcd];have VH:Hid _:=hcd;clear hcd;go_wp2_with fail;go_meet;exact⟨_,rfl,by rw[Jb.o,xR.o,ai VH.o,gp],by omega,Ch.refl _ _⟩
          case rest=>
           generalize hwc:wc=w9 at*;clear hwc wc;obtain⟨s6,rfl,hb6,z6,Wn⟩:=hcut;have SL:Hid _:=hb6;have Xd:Hid (Sm w w9):=PG.o.trans Wn;have T9:=HT.o w9 Xd.o;have c19:=T9.Bf;have c18:=T9.tu;clear hb6 Wn T9;have eA:bl (⟨#[27,91]⟩:ByteArray)=[27,91]:=by kernel_rfl
           have eB:bl (⟨#[52,104]⟩:ByteArray)=[52,104]:=by kernel_rfl
           have eC:bl (⟨#[63,55,108]⟩:ByteArray)=[63,55,108]:=by kernel_rfl
           go_upto_if 178 with fail;go_cut [3] from 174 to 181 (fun s3' wc=>∃s:ByteArray,s3'= .string s∧bl s=T6++(if d.t.insert then[27,91,52,104]else[])∧s.size≤46310∧wc=w9)
           case first=>
            cases hi:d.t.insert with
            |true=>
             have HI:Hid _:=hi;rw[hi]at c19;clear hi;go_wp2_with fail;go_meet;refine⟨_,rfl,?_,?_,rfl⟩
             ·rw[aL,aL,SL.o,eA,eB,ak HI.o];simp
             ·simp only[iC];show _+2+2≤_;omega
            |false=>have HI:Hid _:=hi;rw[hi]at c19;clear hi;go_wp2_with fail;go_meet;exact⟨_,rfl,by rw[SL.o,ai (by rw[HI.o];decide),gp],by omega,rfl⟩
           case rest=>
            generalize hwc:wc=wq at*;clear hwc wc;obtain⟨s7,rfl,Zj,z7,hwq⟩:=hcut;have xz:=hwq.symm;subst xz;have VF:Hid _:=Zj;clear hwq Zj c19;have fin:∀t:ByteArray,bl t=T6++(if d.t.insert then[27,91,52,104]else[])++(if d.t.wrap then[]else[27,91,63,55,108])→bl t=GD d t1 t2 q1 q2 tS:=fun t h=>by rw[h,xR.o,Am.o,rV.o,(HYE.o).1,(HYE.o).2];unfold GD LX uP LW;rw[HTP.o,Zo.o]
            have Zv:Hid _:=fin;clear fin;cases hw:d.t.wrap with
            |true=>have Zc:Hid _:=hw;rw[hw]at c18;clear hw;go_wp2_with fail;go_ret;exact⟨_,rfl,Zv.o _ (by rw[VF.o,ak (show d.t.wrap=true from Zc.o),gp]),Xd.o⟩
            |false=>have Zc:Hid _:=hw;rw[hw]at c18;clear hw;go_wp2_with fail;go_ret;exact⟨_,rfl,Zv.o _ (by rw[aL,aL,VF.o,eA,eC,ai (show¬d.t.wrap=true by rw[Zc.o];decide)];simp),Xd.o⟩
end Go.Proofs.YtheibfffilomcaaGreatDoor
