import Derived.Test.YtheibfffilomcabGreatDoorEvnU
import Derived.Test.YtheibfffilomcabGreatDoorZh
set_option linter.all false
set_option maxRecDepth 100000
set_option maxHeartbeats 4000000
namespace Go.Proofs.YtheibfffilomcabGreatDoor
open Go.RowKit Go.Proofs.Tryz
variable {ops:Array Oper} {rest:List Oper} {a:Act} {u:World} {Q:Exit→Act→World→Prop} {S:bK}
theorem QV(d:Nat)(p q:dQ)(w:World):(Op.equalIn (d+3) 125 (.agg (aN p).toArray) (.agg (aN q).toArray)).run prog w= .ok (decide (p=q)) w:=by
 have hu:prog.underlying 125=some (.struct (prog.fieldsOf 125)):=by kernel_rfl
 have hp:prog.stoodInHeld 125=false:=by kernel_rfl
 rw[run_equalIn_struct w (d+2) 125 _ _ hu hp];rw[rP (d+2) _ _ w _ [(3,0,p.row==q.row),(3,1,p.col==q.col),(4,2,p.waits==q.waits),(102,3,decide (p.pen=q.pen)),(3,8,p.first==q.first),(3,9,p.second==q.second),(3,10,p.use==q.use),(4,11,p.origin==q.origin)] (nG (by kernel_rfl)) (by kernel_rfl) ?_]
 ·refine congrArg (fun z=>Result.ok z w) ?_;obtain⟨a1,a2,a3,a4,a5,a6,a7,a8⟩:=p;obtain⟨b1,b2,b3,b4,b5,b6,b7,b8⟩:=q;simp only[List.all_cons,List.all_nil,dQ.mk.injEq,Bool.and_true];rw[Bool.eq_iff_iff];simp
 ·intro x hx;simp only[di,eU,eX]at hx;rcases hx with rfl|rfl|rfl|rfl|rfl|rfl|rfl|rfl
  ·exact⟨_,_,jX _ 0 p.row rfl w,jX _ 0 q.row rfl w,QU (d+1) _ _ w⟩
  ·exact⟨_,_,jX _ 1 p.col rfl w,jX _ 1 q.col rfl w,QU (d+1) _ _ w⟩
  ·exact⟨_,_,sV _ 2 p.waits rfl w,sV _ 2 q.waits rfl w,X7 (d+1) _ _ w⟩
  ·refine⟨_,_,CP _ 3 w,CP _ 3 w,?_⟩;exact eqP d p.pen q.pen w
  ·exact⟨_,_,jX _ 8 p.first rfl w,jX _ 8 q.first rfl w,QU (d+1) _ _ w⟩
  ·exact⟨_,_,jX _ 9 p.second rfl w,jX _ 9 q.second rfl w,QU (d+1) _ _ w⟩
  ·exact⟨_,_,jX _ 10 p.use rfl w,jX _ 10 q.use rfl w,QU (d+1) _ _ w⟩
  ·exact⟨_,_,sV _ 11 p.origin rfl w,sV _ 11 q.origin rfl w,X7 (d+1) _ _ w⟩
theorem QW(p q:dQ)(w:World):(binOp .eql 125 (.agg (aN p).toArray) (.agg (aN q).toArray)).run prog w= .ok (.bool (decide (p=q))) w:=by rw[run_eql_struct,QV 9997];rfl
theorem kD{o:Oper}(hgd:o.guard=none)(x y:Operand)(ho:o.op= .binOp .eql 125 x y 125)(p q:dQ)(hx:a.eval x= .agg (aN p).toArray)(arr:Array Value)(hy:a.eval y= .agg arr)(harr:arr=(aN q).toArray)(b:Bool)(hb:decide (p=q)=b)(h:wpList prog ops Q rest (a.put o.dst (.bool b)) u):wpList prog ops Q (o::rest) a u:=by
 subst harr hb;refine sI hgd fun K hK=>?_;have R:=hK _ _ h;unfold Oper.wp execOp;simp only[ho,hx,hy,kN,UL 125 (.inr (.inl rfl)),QW,kM,qg];exact R
def Qi:List Value:=[.int .i64 0,.int .i64 0,.bool false,.bool false,.bool false,.bool false,.int .i64 0,.int .i64 0,.int .i64 0,.int .i64 0,.int .i64 0,.bool false]
theorem F5(wb:Nat)(L:Lay)(s:TS)(p:dQ)(hf:p.first=0∨p.first=1)(hs:p.second=0∨p.second=1)(hu:p.use=0∨p.use=1)(x:WS)(w:World)(h:Wr w wb L s x)(hx:x.tx.length≤300001000):
 Calls prog 194 #[.pointer (some ⟨wb,0,none⟩),.agg (aN p).toArray] w fun e w'=>e= .returned (.tuple #[])∧eB w' wb L.tb (x.bg p)∧Wk wb w w':=by
 have hlt:=h.lt;obtain⟨W,hW⟩:∃W,W=w.alloc (.cells (aN p).toArray 125):=⟨_,rfl⟩;have GW:W.heap[w.heap.size]? =some (.cells (aN p).toArray 125 (0,0)):=by rw[hW];exact bJ _ _
 have BW:Below w.heap.size w W:=by rw[hW];exact(dF _ _).alloc (bE _) _
 have HX0:Hid (Wr W wb L s x):=h.keep BW;have Gq:Hid (Wk wb w W):=Wk.of_below BW (iH hlt);have Gy:Hid _:=GW;have HW:Hid _:=hW;have i2:=(gp (bJ w (.cells (aN p).toArray 125))).2.2.2.2.2.2;have XC:∀y:World,y.heap[w.heap.size]? =some (.cells (aN p).toArray 125 (0,0))→_:=fun y hy=>gp hy;have j1:=(gp (bJ w (.cells (aN p).toArray 125))).2.2.2.1;have j2:=(gp (bJ w (.cells (aN p).toArray 125))).2.2.2.2.1;have j3:=(gp (bJ w (.cells (aN p).toArray 125))).2.2.2.2.2.1;clear h hW GW BW;go_enter func194,ntmps194;cases ho:p.origin with
 |false=>
  rw[ho]at i2;rcases hf with hf|hf
  ·rw[hf]at j1;rcases hs with hs|hs
   ·rw[hs]at j2;rcases hu with hu|hu
    ·rw[hu]at j3;go_wp2_with fail;rw[←HW.o];go_end0;have he:x.bg p=x:=by unfold WS.bg WS.bk1 WS.bk2 WS.A7 WS.Cg;rw[ho,hf,hs,hu];rfl
     exact⟨rfl,by rw[he];exact HX0.o.wr,Gq.o⟩
    ·rw[hu]at j3;have l9:=av wb L.tb (x) {data:=#[15]} W HX0.o.wr (by omega) (by decide);rw[dG _ (show bl ({data:=#[15]}:ByteArray)=[15] by rfl)]at l9;rw[HW.o]at l9;go_wp2_with fail;refine l9.mono ?_;rintro e z1 ⟨⟨v9,rfl⟩,h9,k9⟩;rw[←HW.o]at k9;have ND:Hid (Wr z1 wb L s ((x).put [15])):=HX0.o.step k9 h9;have Qt:Hid (z1.heap[w.heap.size]? =some (.cells (aN p).toArray 125 (0,0))):=k9.at Gy.o (by omega) (by decide);have Qy:Hid (Wk wb w z1):=Gq.o.trans k9;have n2:=bN (x) [15];simp only[fB,dH]at n2;clear h9 k9 HX0 Gy Gq;go_wp2_with fail;go_end0;have he:x.bg p=(x).put [15]:=by unfold WS.bg WS.bk1 WS.bk2 WS.A7 WS.Cg;rw[ho,hf,hs,hu];rfl
     exact⟨rfl,by rw[he];exact ND.o.wr,Qy.o⟩
   ·rw[hs]at j2;have l9:=av wb L.tb (x) {data:=#[27,41,66]} W HX0.o.wr (by omega) (by decide);rw[dG _ (show bl ({data:=#[27,41,66]}:ByteArray)=[27,41,66] by rfl)]at l9;rw[HW.o]at l9;go_wp2_with fail;refine l9.mono ?_;rintro e z3 ⟨⟨v9,rfl⟩,h9,k9⟩;rw[←HW.o]at k9;have sZ:Hid (Wr z3 wb L s ((x).put [27,41,66])):=HX0.o.step k9 h9;have qE:Hid (z3.heap[w.heap.size]? =some (.cells (aN p).toArray 125 (0,0))):=k9.at Gy.o (by omega) (by decide);have yt:Hid (Wk wb w z3):=Gq.o.trans k9;have n4:=bN (x) [27,41,66];simp only[fB,dH]at n4;clear h9 k9 HX0 Gy Gq;rcases hu with hu|hu
    ·have aU:=(XC z3 qE.o).2.2.2.2.2.1;rw[hu]at aU;go_wp2_with fail;go_end0;have he:x.bg p=(x).put [27,41,66]:=by unfold WS.bg WS.bk1 WS.bk2 WS.A7 WS.Cg;rw[ho,hf,hs,hu];rfl
     exact⟨rfl,by rw[he];exact sZ.o.wr,yt.o⟩
    ·have aU:=(XC z3 qE.o).2.2.2.2.2.1;rw[hu]at aU;have l9:=av wb L.tb ((x).put [27,41,66]) {data:=#[15]} z3 sZ.o.wr (by omega) (by decide);rw[dG _ (show bl ({data:=#[15]}:ByteArray)=[15] by rfl)]at l9;go_wp2_with fail;refine l9.mono ?_;rintro e z5 ⟨⟨v9,rfl⟩,h9,k9⟩;have Tp:Hid (Wr z5 wb L s (((x).put [27,41,66]).put [15])):=sZ.o.step k9 h9;have aaW:Hid (z5.heap[w.heap.size]? =some (.cells (aN p).toArray 125 (0,0))):=k9.at qE.o (by omega) (by decide);have Tg:Hid (Wk wb w z5):=yt.o.trans k9;have n6:=bN ((x).put [27,41,66]) [15];simp only[fB,dH]at n6;clear h9 k9 sZ qE yt;go_wp2_with fail;go_end0;have he:x.bg p=((x).put [27,41,66]).put [15]:=by unfold WS.bg WS.bk1 WS.bk2 WS.A7 WS.Cg;rw[ho,hf,hs,hu];rfl
     exact⟨rfl,by rw[he];exact Tp.o.wr,Tg.o⟩
  ·rw[hf]at j1;have l9:=av wb L.tb (x) {data:=#[27,40,66]} W HX0.o.wr (by omega) (by decide);rw[dG _ (show bl ({data:=#[27,40,66]}:ByteArray)=[27,40,66] by rfl)]at l9;rw[HW.o]at l9;go_wp2_with fail;refine l9.mono ?_;rintro e z7 ⟨⟨v9,rfl⟩,h9,k9⟩;rw[←HW.o]at k9;have GH:Hid (Wr z7 wb L s ((x).put [27,40,66])):=HX0.o.step k9 h9;have DY:Hid (z7.heap[w.heap.size]? =some (.cells (aN p).toArray 125 (0,0))):=k9.at Gy.o (by omega) (by decide);have Nz:Hid (Wk wb w z7):=Gq.o.trans k9;have n8:=bN (x) [27,40,66];simp only[fB,dH]at n8;clear h9 k9 HX0 Gy Gq;rcases hs with hs|hs
   ·have aX:=(XC z7 DY.o).2.2.2.2.1;rw[hs]at aX;rcases hu with hu|hu
    ·have aU:=(XC z7 DY.o).2.2.2.2.2.1;rw[hu]at aU;go_wp2_with fail;go_end0;have he:x.bg p=(x).put [27,40,66]:=by unfold WS.bg WS.bk1 WS.bk2 WS.A7 WS.Cg;rw[ho,hf,hs,hu];rfl
     exact⟨rfl,by rw[he];exact GH.o.wr,Nz.o⟩
    ·have aU:=(XC z7 DY.o).2.2.2.2.2.1;rw[hu]at aU;have l9:=av wb L.tb ((x).put [27,40,66]) {data:=#[15]} z7 GH.o.wr (by omega) (by decide);rw[dG _ (show bl ({data:=#[15]}:ByteArray)=[15] by rfl)]at l9;go_wp2_with fail;refine l9.mono ?_;rintro e z9 ⟨⟨v9,rfl⟩,h9,k9⟩;have Cb:Hid (Wr z9 wb L s (((x).put [27,40,66]).put [15])):=GH.o.step k9 h9;have B_:Hid (z9.heap[w.heap.size]? =some (.cells (aN p).toArray 125 (0,0))):=k9.at DY.o (by omega) (by decide);have GD:Hid (Wk wb w z9):=Nz.o.trans k9;have n10:=bN ((x).put [27,40,66]) [15];simp only[fB,dH]at n10;clear h9 k9 GH DY Nz;go_wp2_with fail;go_end0;have he:x.bg p=((x).put [27,40,66]).put [15]:=by unfold WS.bg WS.bk1 WS.bk2 WS.A7 WS.Cg;rw[ho,hf,hs,hu];rfl
     exact⟨rfl,by rw[he];exact Cb.o.wr,GD.o⟩
   ·have aX:=(XC z7 DY.o).2.2.2.2.1;rw[hs]at aX;have l9:=av wb L.tb ((x).put [27,40,66]) {data:=#[27,41,66]} z7 GH.o.wr (by omega) (by decide);rw[dG _ (show bl ({data:=#[27,41,66]}:ByteArray)=[27,41,66] by rfl)]at l9;go_wp2_with fail;refine l9.mono ?_;rintro e z11 ⟨⟨v9,rfl⟩,h9,k9⟩;have AU:Hid (Wr z11 wb L s (((x).put [27,40,66]).put [27,41,66])):=GH.o.step k9 h9;have DV:Hid (z11.heap[w.heap.size]? =some (.cells (aN p).toArray 125 (0,0))):=k9.at DY.o (by omega) (by decide);have DZ:Hid (Wk wb w z11):=Nz.o.trans k9;have n12:=bN ((x).put [27,40,66]) [27,41,66];simp only[fB,dH]at n12;clear h9 k9 GH DY Nz;rcases hu with hu|hu
    ·have aU:=(XC z11 DV.o).2.2.2.2.2.1;rw[hu]at aU;go_wp2_with fail;go_end0;have he:x.bg p=((x).put [27,40,66]).put [27,41,66]:=by unfold WS.bg WS.bk1 WS.bk2 WS.A7 WS.Cg;rw[ho,hf,hs,hu];rfl
     exact⟨rfl,by rw[he];exact AU.o.wr,DZ.o⟩
    ·have aU:=(XC z11 DV.o).2.2.2.2.2.1;rw[hu]at aU;have l9:=av wb L.tb (((x).put [27,40,66]).put [27,41,66]) {data:=#[15]} z11 AU.o.wr (by omega) (by decide);rw[dG _ (show bl ({data:=#[15]}:ByteArray)=[15] by rfl)]at l9;go_wp2_with fail;refine l9.mono ?_;rintro e z13 ⟨⟨v9,rfl⟩,h9,k9⟩;have W_:Hid (Wr z13 wb L s ((((x).put [27,40,66]).put [27,41,66]).put [15])):=AU.o.step k9 h9;have adO:Hid (z13.heap[w.heap.size]? =some (.cells (aN p).toArray 125 (0,0))):=k9.at DV.o (by omega) (by decide);have WB:Hid (Wk wb w z13):=DZ.o.trans k9;have n14:=bN (((x).put [27,40,66]).put [27,41,66]) [15];simp only[fB,dH]at n14;clear h9 k9 AU DV DZ;go_wp2_with fail;go_end0;have he:x.bg p=(((x).put [27,40,66]).put [27,41,66]).put [15]:=by unfold WS.bg WS.bk1 WS.bk2 WS.A7 WS.Cg;rw[ho,hf,hs,hu];rfl
     exact⟨rfl,by rw[he];exact W_.o.wr,WB.o⟩
 |true=>
  rw[ho]at i2;have l9:=dM wb L.tb (x) {data:=#[63,54,108]} W HX0.o.wr (by omega) (by decide);rw[show bl ({data:=#[63,54,108]}:ByteArray)=[63,54,108] by rfl]at l9;rw[HW.o]at l9;go_wp2_with fail;refine l9.mono ?_;rintro e z15 ⟨rfl,h9,k9⟩;rw[←HW.o]at k9;have nH:Hid (Wr z15 wb L s ((x).seq [63,54,108])):=HX0.o.step k9 h9;have lH:Hid (z15.heap[w.heap.size]? =some (.cells (aN p).toArray 125 (0,0))):=k9.at Gy.o (by omega) (by decide);have sM:Hid (Wk wb w z15):=Gq.o.trans k9;have n16:=iJ (x) [63,54,108];simp only[fB,dH]at n16;clear h9 k9 HX0 Gy Gq;rcases hf with hf|hf
  ·have fF:=(XC z15 lH.o).2.2.2.1;rw[hf]at fF;rcases hs with hs|hs
   ·have aX:=(XC z15 lH.o).2.2.2.2.1;rw[hs]at aX;rcases hu with hu|hu
    ·have aU:=(XC z15 lH.o).2.2.2.2.2.1;rw[hu]at aU;go_wp2_with fail;go_end0;have he:x.bg p=(x).seq [63,54,108]:=by unfold WS.bg WS.bk1 WS.bk2 WS.A7 WS.Cg;rw[ho,hf,hs,hu];rfl
     exact⟨rfl,by rw[he];exact nH.o.wr,sM.o⟩
    ·have aU:=(XC z15 lH.o).2.2.2.2.2.1;rw[hu]at aU;have l9:=av wb L.tb ((x).seq [63,54,108]) {data:=#[15]} z15 nH.o.wr (by omega) (by decide);rw[dG _ (show bl ({data:=#[15]}:ByteArray)=[15] by rfl)]at l9;go_wp2_with fail;refine l9.mono ?_;rintro e z17 ⟨⟨v9,rfl⟩,h9,k9⟩;have ql:Hid (Wr z17 wb L s (((x).seq [63,54,108]).put [15])):=nH.o.step k9 h9;have oC:Hid (z17.heap[w.heap.size]? =some (.cells (aN p).toArray 125 (0,0))):=k9.at lH.o (by omega) (by decide);have uj:Hid (Wk wb w z17):=sM.o.trans k9;have n18:=bN ((x).seq [63,54,108]) [15];simp only[fB,dH]at n18;clear h9 k9 nH lH sM;go_wp2_with fail;go_end0;have he:x.bg p=((x).seq [63,54,108]).put [15]:=by unfold WS.bg WS.bk1 WS.bk2 WS.A7 WS.Cg;rw[ho,hf,hs,hu];rfl
     exact⟨rfl,by rw[he];exact ql.o.wr,uj.o⟩
   ·have aX:=(XC z15 lH.o).2.2.2.2.1;rw[hs]at aX;have l9:=av wb L.tb ((x).seq [63,54,108]) {data:=#[27,41,66]} z15 nH.o.wr (by omega) (by decide);rw[dG _ (show bl ({data:=#[27,41,66]}:ByteArray)=[27,41,66] by rfl)]at l9;go_wp2_with fail;refine l9.mono ?_;rintro e z19 ⟨⟨v9,rfl⟩,h9,k9⟩;have AV:Hid (Wr z19 wb L s (((x).seq [63,54,108]).put [27,41,66])):=nH.o.step k9 h9;have DW:Hid (z19.heap[w.heap.size]? =some (.cells (aN p).toArray 125 (0,0))):=k9.at lH.o (by omega) (by decide);have D5:Hid (Wk wb w z19):=sM.o.trans k9;have n20:=bN ((x).seq [63,54,108]) [27,41,66];simp only[fB,dH]at n20;clear h9 k9 nH lH sM;rcases hu with hu|hu
    ·have aU:=(XC z19 DW.o).2.2.2.2.2.1;rw[hu]at aU;go_wp2_with fail;go_end0;have he:x.bg p=((x).seq [63,54,108]).put [27,41,66]:=by unfold WS.bg WS.bk1 WS.bk2 WS.A7 WS.Cg;rw[ho,hf,hs,hu];rfl
     exact⟨rfl,by rw[he];exact AV.o.wr,D5.o⟩
    ·have aU:=(XC z19 DW.o).2.2.2.2.2.1;rw[hu]at aU;have l9:=av wb L.tb (((x).seq [63,54,108]).put [27,41,66]) {data:=#[15]} z19 AV.o.wr (by omega) (by decide);rw[dG _ (show bl ({data:=#[15]}:ByteArray)=[15] by rfl)]at l9;go_wp2_with fail;refine l9.mono ?_;rintro e z21 ⟨⟨v9,rfl⟩,h9,k9⟩;have Xb:Hid (Wr z21 wb L s ((((x).seq [63,54,108]).put [27,41,66]).put [15])):=AV.o.step k9 h9;have adQ:Hid (z21.heap[w.heap.size]? =some (.cells (aN p).toArray 125 (0,0))):=k9.at DW.o (by omega) (by decide);have WE:Hid (Wk wb w z21):=D5.o.trans k9;have n22:=bN (((x).seq [63,54,108]).put [27,41,66]) [15];simp only[fB,dH]at n22;clear h9 k9 AV DW D5;go_wp2_with fail;go_end0;have he:x.bg p=(((x).seq [63,54,108]).put [27,41,66]).put [15]:=by unfold WS.bg WS.bk1 WS.bk2 WS.A7 WS.Cg;rw[ho,hf,hs,hu];rfl
     exact⟨rfl,by rw[he];exact Xb.o.wr,WE.o⟩
  ·have fF:=(XC z15 lH.o).2.2.2.1;rw[hf]at fF;have l9:=av wb L.tb ((x).seq [63,54,108]) {data:=#[27,40,66]} z15 nH.o.wr (by omega) (by decide);rw[dG _ (show bl ({data:=#[27,40,66]}:ByteArray)=[27,40,66] by rfl)]at l9;go_wp2_with fail;refine l9.mono ?_;rintro e z23 ⟨⟨v9,rfl⟩,h9,k9⟩;have mG:Hid (Wr z23 wb L s (((x).seq [63,54,108]).put [27,40,66])):=nH.o.step k9 h9;have kR:Hid (z23.heap[w.heap.size]? =some (.cells (aN p).toArray 125 (0,0))):=k9.at lH.o (by omega) (by decide);have qF:Hid (Wk wb w z23):=sM.o.trans k9;have n24:=bN ((x).seq [63,54,108]) [27,40,66];simp only[fB,dH]at n24;clear h9 k9 nH lH sM;rcases hs with hs|hs
   ·have aX:=(XC z23 kR.o).2.2.2.2.1;rw[hs]at aX;rcases hu with hu|hu
    ·have aU:=(XC z23 kR.o).2.2.2.2.2.1;rw[hu]at aU;go_wp2_with fail;go_end0;have he:x.bg p=((x).seq [63,54,108]).put [27,40,66]:=by unfold WS.bg WS.bk1 WS.bk2 WS.A7 WS.Cg;rw[ho,hf,hs,hu];rfl
     exact⟨rfl,by rw[he];exact mG.o.wr,qF.o⟩
    ·have aU:=(XC z23 kR.o).2.2.2.2.2.1;rw[hu]at aU;have l9:=av wb L.tb (((x).seq [63,54,108]).put [27,40,66]) {data:=#[15]} z23 mG.o.wr (by omega) (by decide);rw[dG _ (show bl ({data:=#[15]}:ByteArray)=[15] by rfl)]at l9;go_wp2_with fail;refine l9.mono ?_;rintro e z25 ⟨⟨v9,rfl⟩,h9,k9⟩;have NF:Hid (Wr z25 wb L s ((((x).seq [63,54,108]).put [27,40,66]).put [15])):=mG.o.step k9 h9;have Wv:Hid (z25.heap[w.heap.size]? =some (.cells (aN p).toArray 125 (0,0))):=k9.at kR.o (by omega) (by decide);have Nr:Hid (Wk wb w z25):=qF.o.trans k9;have n26:=bN (((x).seq [63,54,108]).put [27,40,66]) [15];simp only[fB,dH]at n26;clear h9 k9 mG kR qF;go_wp2_with fail;go_end0;have he:x.bg p=(((x).seq [63,54,108]).put [27,40,66]).put [15]:=by unfold WS.bg WS.bk1 WS.bk2 WS.A7 WS.Cg;rw[ho,hf,hs,hu];rfl
     exact⟨rfl,by rw[he];exact NF.o.wr,Nr.o⟩
   ·have aX:=(XC z23 kR.o).2.2.2.2.1;rw[hs]at aX;have l9:=av wb L.tb (((x).seq [63,54,108]).put [27,40,66]) {data:=#[27,41,66]} z23 mG.o.wr (by omega) (by decide);rw[dG _ (show bl ({data:=#[27,41,66]}:ByteArray)=[27,41,66] by rfl)]at l9;go_wp2_with fail;refine l9.mono ?_;rintro e z27 ⟨⟨v9,rfl⟩,h9,k9⟩;have JD:Hid (Wr z27 wb L s ((((x).seq [63,54,108]).put [27,40,66]).put [27,41,66])):=mG.o.step k9 h9;have Ju:Hid (z27.heap[w.heap.size]? =some (.cells (aN p).toArray 125 (0,0))):=k9.at kR.o (by omega) (by decide);have Nt:Hid (Wk wb w z27):=qF.o.trans k9;have n28:=bN (((x).seq [63,54,108]).put [27,40,66]) [27,41,66];simp only[fB,dH]at n28;clear h9 k9 mG kR qF;rcases hu with hu|hu
    ·have aU:=(XC z27 Ju.o).2.2.2.2.2.1;rw[hu]at aU;go_wp2_with fail;go_end0;have he:x.bg p=(((x).seq [63,54,108]).put [27,40,66]).put [27,41,66]:=by unfold WS.bg WS.bk1 WS.bk2 WS.A7 WS.Cg;rw[ho,hf,hs,hu];rfl
     exact⟨rfl,by rw[he];exact JD.o.wr,Nt.o⟩
    ·have aU:=(XC z27 Ju.o).2.2.2.2.2.1;rw[hu]at aU;have l9:=av wb L.tb ((((x).seq [63,54,108]).put [27,40,66]).put [27,41,66]) {data:=#[15]} z27 JD.o.wr (by omega) (by decide);rw[dG _ (show bl ({data:=#[15]}:ByteArray)=[15] by rfl)]at l9;go_wp2_with fail;refine l9.mono ?_;rintro e z29 ⟨⟨v9,rfl⟩,h9,k9⟩;have wX:Hid (Wr z29 wb L s (((((x).seq [63,54,108]).put [27,40,66]).put [27,41,66]).put [15])):=JD.o.step k9 h9;have sK:Hid (z29.heap[w.heap.size]? =some (.cells (aN p).toArray 125 (0,0))):=k9.at Ju.o (by omega) (by decide);have AP:Hid (Wk wb w z29):=Nt.o.trans k9;have n30:=bN ((((x).seq [63,54,108]).put [27,40,66]).put [27,41,66]) [15];simp only[fB,dH]at n30;clear h9 k9 JD Ju Nt;go_wp2_with fail;go_end0;have he:x.bg p=((((x).seq [63,54,108]).put [27,40,66]).put [27,41,66]).put [15]:=by unfold WS.bg WS.bk1 WS.bk2 WS.A7 WS.Cg;rw[ho,hf,hs,hu];rfl
     exact⟨rfl,by rw[he];exact wX.o.wr,AP.o⟩
structure GJ (s:TS) (p:dQ):Prop where
 r:0≤p.row∧p.row<(s.rows:Int)
 c:0≤p.col∧p.col<(s.aa:Int)
 fit:p.Fit s.aa
theorem tY(x:WS)(S:bK)(p:dQ)(top:Int):(x.aP S p top).tx.length≤x.tx.length+80:=by
 have a1:(x.pE p).tx.length≤x.tx.length+5:=by
  unfold WS.pE;split
  ·rw[iJ];simp
  ·omega
 have a2:∀y:WS,∀r,(y.qd S p r).tx.length≤y.tx.length+32:=fun y r=>by
  unfold WS.qd;split
  ·exact tZ _ _ _ _
  ·have:=iZ y r p.col;omega
 have a4:∀y:WS,(y.qw p).tx.length≤y.tx.length+3:=fun y=>by unfold WS.qw;split;rw[bN];simp;omega
 have a5:∀y:WS,(y.qy p).tx.length≤y.tx.length+3:=fun y=>by unfold WS.qy;split;rw[bN];simp;omega
 have a6:∀y:WS,(y.rG p).tx.length≤y.tx.length+1:=fun y=>by unfold WS.rG;split;rw[bN];simp;omega
 unfold WS.aP;have b2:=a2 (x.pE p) (if p.origin then p.row-top else p.row);have b3:=ng ((x.pE p).qd S p (if p.origin then p.row-top else p.row)) p.pen;have b4:=a4 (((x.pE p).qd S p (if p.origin then p.row-top else p.row)).turn p.pen);have b5:=a5 ((((x.pE p).qd S p (if p.origin then p.row-top else p.row)).turn p.pen).qw p);have b6:=a6 (((((x.pE p).qd S p (if p.origin then p.row-top else p.row)).turn p.pen).qw p).qy p);omega
theorem Dq(x:WS)(p:dQ):(x.bg p).tx.length≤x.tx.length+20:=by
 have a1:(x.bk1 p).tx.length≤x.tx.length+5:=by
  unfold WS.bk1;split
  ·rw[iJ];simp
  ·omega
 have a4:∀y:WS,(y.bk2 p).tx.length≤y.tx.length+3:=fun y=>by unfold WS.bk2;split;rw[bN];simp;omega
 have a5:∀y:WS,(y.A7 p).tx.length≤y.tx.length+3:=fun y=>by unfold WS.A7;split;rw[bN];simp;omega
 have a6:∀y:WS,(y.Cg p).tx.length≤y.tx.length+1:=fun y=>by unfold WS.Cg;split;rw[bN];simp;omega
 unfold WS.bg;have b4:=a4 (x.bk1 p);have b5:=a5 ((x.bk1 p).bk2 p);have b6:=a6 (((x.bk1 p).bk2 p).A7 p);omega
theorem L_(x:WS)(S:bK)(p:dQ):(x.saved S p).tx.length≤x.tx.length+102:=by
 unfold WS.saved;split
 ·omega
 ·have h1:=tY x S p 0;have h2:=Dq ((x.aP S p 0).put [27,55]) p;rw[bN]at h2;simp only[fB,dH]at h2;omega
theorem Pq(wb:Nat)(L:Lay)(s:TS)(hI:s.Inv)(hO:pF s)(n:Nat)(hn:n<2)(hp:GJ s (s.dP n))(x:WS)(w:World)(h:Wr w wb L s x)(hx:x.tx.length≤200000000):
 Calls prog 140 #[.pointer (some ⟨wb,0,none⟩),.int .i64 (n:Int)] w fun e w'=>e= .returned (.tuple #[])∧eB w' wb L.tb (x.saved (s.aj n) (s.dP n))∧Wk wb w w':=by
 have c0:=h.c0;have hlt:=h.lt;have l1:=zM L s n hn w h.te;have HX0:Hid _:=h;have HI:Hid _:=hI;have HO:Hid _:=hO;generalize s.dP n=p at*;clear h hI hO;go_enter func140,ntmps140;go_wp2_with fail;refine l1.mono ?_;rintro e x1 ⟨rfl,q1⟩;go_wp2_with (refine bY _ rfl 125 (.tmp 4) (.tmp 10) rfl x1.heap.size Qi (aN p) rfl _ rfl rfl 125 (bJ _ _) rfl bL (o7 _) ?_);intro y1 g1 k1 z1;have hq1:w.heap.size≤x1.heap.size:=q1.size;have B1:Below w.heap.size w y1:=(q1.nI.alloc q1.size (.cells Qi.toArray 125)).trans (k1.below (by simp;omega) (fun k hk e=>by omega));have si:Hid (Wr y1 wb L s x):=HX0.o.keep B1;have Dz:Hid (Wk wb w y1):=Wk.of_below B1 (iH hlt);obtain⟨nb,hnb⟩:∃nb,nb=x1.heap.size:=⟨_,rfl⟩;rw[←hnb];rw[←hnb]at g1;have hwn:wb<nb:=by omega
 have Gz:Hid _:=g1;clear g1 k1 z1 q1 B1 HX0 c0 l1 hnb;by_cases hp0:p=je
 ·have HD:Hid (decide (p=je)=true):=mE hp0;have pz:Hid (x.saved (s.aj n) p=x):=by show _=_;unfold WS.saved;rw[aS hp0]
  clear hp0;go_wp2_with (first|(refine jb rfl 125 (.tmp 4) rfl nb rfl 125 _ (0,0) _ Gz.o underlying125 rfl bL ?_)|(refine kD rfl (.tmp 11) (.tmp 12) rfl p je rfl _ rfl rfl true HD.o ?_));refine gL (lF rfl _ _ _) rfl ?_;exact⟨rfl,by rw[pz.o];exact si.o.wr,Dz.o⟩
 ·have HD:Hid (decide (p=je)=false):=mF hp0;have pz:Hid (x.saved (s.aj n) p=((x.aP (s.aj n) p 0).put [27,55]).bg p):=by show _=_;unfold WS.saved;rw[aG hp0]
  obtain⟨⟨pr0,pr1⟩,⟨pc0,pc1⟩,hfit⟩:=hp;have hr2:=HI.o.r2;have hrr:(if p.origin then p.row-0 else p.row)=((p.row.toNat:Nat):Int):=by split<;>omega
  have l2:=BP wb L s HI.o HO.o n p.row.toNat p.col.toNat p.row.toNat 0 hn (by omega) (by omega) (by omega) p (by omega) (by omega) hfit.p hfit.f hfit.sc hfit.u hrr x y1 si.o (by omega);have hfi:Hid _:=hfit;clear hp0 hrr hfit pr0 pr1 pc0 pc1;go_wp2_with (first|(refine jb rfl 125 (.tmp 4) rfl nb rfl 125 _ (0,0) _ Gz.o underlying125 rfl bL ?_)|(refine kD rfl (.tmp 11) (.tmp 12) rfl p je rfl _ rfl rfl false HD.o ?_));refine l2.mono ?_;rintro e y2 ⟨rfl,h2,k2⟩;have uk:Hid (Wr y2 wb L s (x.aP (s.aj n) p 0)):=si.o.step k2 h2;have HG2:Hid (y2.heap[nb]? =some (.cells (aN p).toArray 125 (0,0))):=k2.at Gz.o (by omega) (by decide);have Gs:Hid (Wk wb w y2):=Dz.o.trans k2;have n2:=tY x (s.aj n) p 0;have l3:=av wb L.tb (x.aP (s.aj n) p 0) {data:=#[27,55]} y2 h2 (by omega) (by decide);rw[dG _ (show bl ({data:=#[27,55]}:ByteArray)=[27,55] by rfl)]at l3;clear l2 h2 k2 si Gz Dz;go_wp2_with fail;refine l3.mono ?_;rintro e y3 ⟨⟨v3,rfl⟩,h3,k3⟩;have sj:Hid (Wr y3 wb L s ((x.aP (s.aj n) p 0).put [27,55])):=uk.o.step k3 h3;have xL:Hid (y3.heap[nb]? =some (.cells (aN p).toArray 125 (0,0))):=k3.at HG2.o (by omega) (by decide);have Gt:Hid (Wk wb w y3):=Gs.o.trans k3;have n3:=bN (x.aP (s.aj n) p 0) [27,55];simp only[fB,dH]at n3;have l4:=F5 wb L s p hfi.o.f hfi.o.sc hfi.o.u ((x.aP (s.aj n) p 0).put [27,55]) y3 sj.o (by omega);clear l3 h3 k3 uk HG2 Gs;go_wp2_with (refine jb rfl 125 (.tmp 4) rfl nb rfl 125 _ (0,0) _ xL.o underlying125 rfl bL ?_);refine l4.mono ?_;rintro e y4 ⟨rfl,h4,k4⟩;have HF:Hid (eB y4 wb L.tb (x.saved (s.aj n) p)∧Wk wb w y4):=⟨by rw[pz.o];exact h4,Gt.o.trans k4⟩;clear h4 k4;go_wp2_with fail;go_end0;exact⟨rfl,HF.o.1,HF.o.2⟩
theorem Fp(n:Nat):∀(T:bK) (x:WS) (i:Nat),(∀r∈T,r.length≤n)→(WS.nN x i T).tx.length≤x.tx.length+32*n*T.length:=by
 intro T;induction T with
 |nil=>intro x i _;exact Nat.le_add_right _ _
 |cons r T ih=>intro x i hT;have h1:=ih (WS.runs i x 0 aQ r) (i+1) (fun q hq=>hT q (by simp[hq]));have h2:=Po i r x 0 aQ;have h3:=Nat.mul_le_mul_left 32 (hT r (by simp));show(WS.nN (WS.runs i x 0 aQ r) (i+1) T).tx.length≤_;rw[fB,Nat.mul_succ];omega
theorem Io:∀(T:bK) (x:WS) (i k:Nat) (r:List aC),T[k]? =some r→WS.nN x i (T.take (k+1))=WS.runs ((i+k:Nat):Int) (WS.nN x i (T.take k)) 0 aQ r:=by
 intro T;induction T with
 |nil=>intro x i k r h;simp at h
 |cons q T ih=>
  intro x i k r h;cases k with
  |zero=>simp at h;subst h;rfl
  |succ k=>have:=ih (WS.runs i x 0 aQ q) (i+1) k r (by simpa using h);show WS.nN (WS.runs i x 0 aQ q) (i+1) (T.take (k+1))=_;rw[this,show i+1+k=i+(k+1) by omega];rfl
structure sP (s:TS):Prop where
 c:pF s
 r:∀n,n<2→∀q∈s.aj n,q.length=s.aa∧∀c∈q,c.part=2∨c.Ok
 l:∀n,n<2→(s.aj n).length=s.rows
 v:∀n,n<2→GJ s (s.dP n)
theorem vV(wb:Nat)(L:Lay)(s:TS)(hI:s.Inv)(hO:sP s)(n:Nat)(hn:n<2)(x:WS)(w:World)(h:Wr w wb L s x)(hx:x.tx.length≤100000000):
 Calls prog 86 #[.pointer (some ⟨wb,0,none⟩),.int .i64 (n:Int)] w fun e w'=>e= .returned (.tuple #[])∧eB w' wb L.tb (x.screen (s.aj n) (s.dP n))∧Wk wb w w':=by
 have c0:=h.c0;have l1:=o5 L s w h.te hI;have hr2:=hI.r2;have hc2:=hI.c2;have HX0:Hid _:=h;have HI:Hid _:=hI;have HO:Hid _:=hO;have HL:Hid ((s.aj n).length=s.rows):=hO.l n hn;clear h hI hO;go_enter func86,ntmps86;go_wp2_with (go_at_call 90;refine l1.mono ?_;rintro e w1 ⟨rfl,hw1⟩;have hw2:=hw1.symm;subst hw2);go_loopw [16] (fun j wr=>∃k:Nat,k≤s.rows∧j= .int .i64 k∧Hid (Wr wr wb L s (WS.nN x 0 ((s.aj n).take k)))∧Hid (Wk wb w wr)) (fun j _=>s.rows-(intOf j).toNat)
 case atStart=>exact⟨0,jy _,rfl,HX0.o,Wk.refl _ _⟩
 case round=>
  clear l1 c0;obtain⟨k,hk,rfl,HX,HK⟩:=hrel;have hlen:(WS.nN x 0 ((s.aj n).take k)).tx.length≤x.tx.length+20000:=by
   have h1:=Fp 40 ((s.aj n).take k) x 0 (fun r hr=>by have:=(HO.o.r n hn r (DL hr)).1;omega);have h2:((s.aj n).take k).length≤12:=by rw[jJ,HL.o];omega
   have:=Nat.mul_le_mul_left (32*40) h2;omega
  by_cases hkr:k<s.rows
  ·have ikr:(k:Int)<(s.rows:Int):=by omega
   have vk:IntKind.i64.wrap ((k:Int)+1)=(k:Int)+1:=bV _ (by omega);obtain⟨r,hr⟩:∃r,(s.aj n)[k]? =some r:=⟨_,gK (by rw[HL.o];exact hkr)⟩;obtain⟨q1,q2⟩:=HO.o.r n hn r (fu hr);have hRe:r=(if n=0 then s.s0 else s.s1).getD k []:=by
    have:(s.aj n).getD k []=r:=by simp[List.getD,hr]
    rw[←this];rfl
   have l2:=Rx wb L s HI.o n k hn hkr r hRe q1 q2 _ wr HX.o (by omega);have HE:Hid (WS.nN x 0 ((s.aj n).take (k+1))=WS.runs k (WS.nN x 0 ((s.aj n).take k)) 0 aQ r):=by have:=Io (s.aj n) x 0 k r hr;rw[lG]at this;exact this
   clear hr q1 q2 hRe;go_wp2_with fail;refine l2.mono ?_;rintro e y2 ⟨rfl,h2,k2⟩;have uk:Hid (Wr y2 wb L s (WS.nN x 0 ((s.aj n).take (k+1)))):=HX.o.step k2 (by rw[HE.o];exact h2);have Gs:Hid (Wk wb w y2):=HK.o.trans k2;clear h2 k2 l2 HX HK;go_wp2_with fail;go_roundw
   case rel=>exact⟨k+1,by omega,by go_num,uk,Gs⟩
   case measure=>simp[intOf];omega
  ·have ikr:¬(k:Int)<(s.rows:Int):=by omega
   have hke:(s.aj n).take k=s.aj n:=sG (by rw[HL.o];omega);rw[hke]at HX hlen;have l2:=Pq wb L s HI.o HO.o.c n hn (HO.o.v n hn) _ wr HX.o (by omega);clear hke;go_wp2_with fail;refine l2.mono ?_;rintro e y2 ⟨rfl,h2,k2⟩;have HF:Hid (eB y2 wb L.tb (x.screen (s.aj n) (s.dP n))∧Wk wb w y2):=⟨h2,HK.o.trans k2⟩;clear h2 k2;go_wp2_with fail;go_end0;exact⟨rfl,HF.o.1,HF.o.2⟩
theorem Gm{o:Oper}(hgd:o.guard=none)(x y:Operand)(ho:o.op= .binOp .neq 104 x y 104)(c d:aC)(hx:a.eval x= .agg (bO c))(hy:a.eval y= .agg (bO d))(b:Bool)(hb:(!decide (c=d))=b)(h:wpList prog ops Q rest (a.put o.dst (.bool b)) u):wpList prog ops Q (o::rest) a u:=by
 subst hb;refine sI hgd fun K hK=>?_;have R:=hK _ _ h;unfold Oper.wp;rw[Fq x y ho c d hx hy u];exact R
theorem O_{i k:Nat}{r:List aC}{c:aC}(hr:S[i]? =some r)(hc:r[k]? =some c)(h:c≠aQ):WS.nY S=false:=by
 cases e:WS.nY S with
 |false=>rfl
 |true=>unfold WS.nY at e;rw[List.all_eq_true]at e;have e2:=e r (fu hr);rw[List.all_eq_true]at e2;exact absurd (nG (e2 c (fu hc))) h
theorem LG{rows aa:Nat}(hl:S.length=rows)(hc:∀r∈S,r.length=aa)(h:∀i k,i<rows→k<aa→(S.getD i []).getD k aQ=aQ):WS.nY S=true:=by unfold WS.nY;rw[List.all_eq_true];intro r hr;rw[List.all_eq_true];intro c hcm;obtain⟨i,hi⟩:=List.getElem?_of_mem hr;obtain⟨k,hk⟩:=List.getElem?_of_mem hcm;have h1:=(ja.1 hi).1;have h2:=(ja.1 hk).1;have:=h i k (by omega) (by rw[←hc r hr];exact h2);simp only[List.getD,hi,hk,Option.getD_some]at this;exact mE this
theorem Cz(wb:Nat)(L:Lay)(s:TS)(hI:s.Inv)(hO:sP s)(n:Nat)(hn:n<2)(x:WS)(w:World)(h:Wr w wb L s x):
 Calls prog 88 #[.pointer (some ⟨wb,0,none⟩),.int .i64 (n:Int)] w fun e w'=>e= .returned (.bool (WS.pO (s.aj n) (s.dP n)))∧Below w.heap.size w w':=by
 have c0:=h.c0;have l1:=o5 L s w h.te hI;have hr2:=hI.r2;have hc2:=hI.c2;have HX0:Hid _:=h;have HI:Hid _:=hI;have HO:Hid _:=hO;have KX:∀y,Below w.heap.size w y→Wr y wb L s x:=fun y hy=>h.keep hy;have HKX:Hid _:=KX;clear h hI hO KX;go_enter func88,ntmps88;go_wp2_with (go_at_call 90;refine l1.mono ?_;rintro e w1 ⟨rfl,hw1⟩;have hw2:=hw1.symm;subst hw2);go_loopw [18] (fun j wr=>∃i:Nat,i≤s.rows∧j= .int .i64 i∧Hid (Below w.heap.size w wr)∧Hid (∀a b,a<i→b<s.aa→s.cellAt n a b=aQ)) (fun j _=>s.rows-(intOf j).toNat)
 case atStart=>exact⟨0,jy _,rfl,dF _ _,fun a b ha=>by omega⟩
 case round=>
  clear l1 c0;obtain⟨i,hi,rfl,HB,HA⟩:=hrel;by_cases hir:i<s.rows
  ·have iir:(i:Int)<(s.rows:Int):=by omega
   have vi:IntKind.i64.wrap ((i:Int)+1)=(i:Int)+1:=bV _ (by omega);go_wp2_with fail;go_loopw [22] (fun j wr=>∃k:Nat,k≤s.aa∧j= .int .i64 k∧Hid (Below w.heap.size w wr)∧Hid (∀b,b<k→s.cellAt n i b=aQ)) (fun j _=>s.aa-(intOf j).toNat)
   case atStart=>exact⟨0,jy _,rfl,HB,fun b hb=>by omega⟩
   case round=>
    clear HB;obtain⟨k,hk,rfl,HB,HD⟩:=hrel;have c0:=(HKX.o _ HB.o).c0;by_cases hkc:k<s.aa
    ·have UT:(k:Int)<(s.aa:Int):=by omega
     have vk:IntKind.i64.wrap ((k:Int)+1)=(k:Int)+1:=bV _ (by omega);have l3:=mD L s n i k hn hir hkc wr (HKX.o _ HB.o).te HI.o;generalize hce:s.cellAt n i k=c at*;have VZ:Hid _:=hce;clear hce;by_cases hcb:c=aQ
     ·have HN:Hid ((!decide (c=aQ))=false):=by show _=_;rw[mE hcb];rfl
      have Wn:Hid _:=hcb;clear hcb;go_wp2_with fail;refine l3.mono ?_;rintro e x1 ⟨rfl,q1⟩;have HB1:Hid (Below w.heap.size w x1):=HB.o.trans (q1.nI.mono HB.o.size);clear q1;go_wp2_with fail;refine(j5 x1).mono ?_;rintro e x2 ⟨rfl,b2⟩;have HB2:Hid (Below w.heap.size w x2):=HB1.o.trans (b2.mono HB1.o.size);clear b2;go_wp2_with (refine Gm rfl (.tmp 32) (.tmp 33) rfl c aQ rfl rfl false HN.o ?_);go_roundw
      case rel=>exact⟨k+1,by omega,by go_num,HB2,fun b hb=>by
       rcases Nat.lt_succ_iff_lt_or_eq.1 hb with h|h
       ·exact HD.o b h
       ·rw[h];exact VZ.o.trans Wn.o⟩
      case measure=>simp[intOf];omega
     ·have HN:Hid ((!decide (c=aQ))=true):=by show _=_;rw[mF hcb];rfl
      have HFR:Hid (WS.pO (s.aj n) (s.dP n)=false):=by
       show _=_;unfold WS.pO;have hl:=HO.o.l n hn;have Wd:(s.aj n)[i]? =some ((s.aj n).getD i []):=by simp[List.getD,gK (show i<(s.aj n).length by omega)]
       have hrl:=(HO.o.r n hn _ (fu Wd)).1;have lU:((s.aj n).getD i [])[k]? =some c:=by rw[←VZ.o];show _=some (((s.aj n).getD i []).getD k aQ);simp only[List.getD]at hrl ⊢;rw[gK (by rw[hrl];exact hkc)];rfl
       rw[O_ Wd lU hcb];rfl
      go_wp2_with fail;refine l3.mono ?_;rintro e x1 ⟨rfl,q1⟩;have HB1:Hid (Below w.heap.size w x1):=HB.o.trans (q1.nI.mono HB.o.size);clear q1;go_wp2_with fail;refine(j5 x1).mono ?_;rintro e x2 ⟨rfl,b2⟩;have HB2:Hid (Below w.heap.size w x2):=HB1.o.trans (b2.mono HB1.o.size);clear b2;go_wp2_with (refine Gm rfl (.tmp 32) (.tmp 33) rfl c aQ rfl rfl true HN.o ?_);go_ret;exact⟨by rw[HFR.o];rfl,HB2.o⟩
    ·have UT:¬(k:Int)<(s.aa:Int):=by omega
     go_wp2_with fail;go_roundw
     case rel=>exact⟨i+1,by omega,by go_num,HB,fun a b ha hb=>by
      rcases Nat.lt_succ_iff_lt_or_eq.1 ha with h|h
      ·exact HA.o a b h hb
      ·rw[h];exact HD.o b (by omega)⟩
     case measure=>simp[intOf];omega
  ·have iir:¬(i:Int)<(s.rows:Int):=by omega
   have c0:=(HKX.o _ HB.o).c0;have l4:=zM L s n hn wr (HKX.o _ HB.o).te;have HFR:Hid (WS.pO (s.aj n) (s.dP n)=decide (s.dP n=je)):=by show _=_;unfold WS.pO;rw[LG (HO.o.l n hn) (fun r hr=>(HO.o.r n hn r hr).1) (fun a b ha hb=>HA.o a b (by omega) hb),Bool.true_and]
   go_wp2_with fail;refine l4.mono ?_;rintro e x1 ⟨rfl,q1⟩;have HB1:Hid (Below w.heap.size w x1):=HB.o.trans (q1.nI.mono HB.o.size);clear q1;go_wp2_with (refine kD rfl (.tmp 42) (.tmp 43) rfl (s.dP n) je rfl _ rfl rfl _ rfl ?_);go_ret;exact⟨by rw[HFR.o];rfl,HB1.o⟩
theorem PK(L:Lay)(s:TS)(w:World)(ht:a_ w L s):Calls prog 87 #[.pointer (some ⟨L.tb,0,none⟩)] w fun e w'=>e= .returned (.agg #[.int .i64 s.row,.int .i64 s.col,.bool s.waits,.bool s.pen.b,.bool s.pen.u,.bool s.pen.t,.int .i64 s.pen.f,.int .i64 s.pen.k,.int .i64 s.first,.int .i64 s.second,.int .i64 s.use,.bool s.origin,.int .i64 s.top,.int .i64 s.bottom,.bool s.wrap,.bool s.insert,.int .i64 s.shown])∧Sm w w':=rX L s w ht
theorem pY(x:WS)(s:TS)(hI:s.Inv)(hO:sP s)(n:Nat)(hn:n<2):(x.screen (s.aj n) (s.dP n)).tx.length≤x.tx.length+20000:=by
 have hr2:=hI.r2;have hc2:=hI.c2;have h1:=Fp 40 (s.aj n) x 0 (fun r hr=>by have:=(hO.r n hn r hr).1;omega);have h2:(s.aj n).length≤12:=by rw[hO.l n hn];omega
 have:=Nat.mul_le_mul_left (32*40) h2;have h3:=L_ (WS.nN x 0 (s.aj n)) (s.aj n) (s.dP n);show((WS.nN x 0 (s.aj n)).saved (s.aj n) (s.dP n)).tx.length≤_;omega
theorem Ip(wb:Nat)(L:Lay)(s:TS)(hI:s.Inv)(hO:sP s)(x:WS)(w:World)(h:Wr w wb L s x)(hx:x.tx.length≤1000):
 Calls prog 49 #[.pointer (some ⟨wb,0,none⟩)] w fun e w'=>e= .returned (.tuple #[])∧eB w' wb L.tb (x.ek s)∧Wk wb w w':=by
 have l1:=vV wb L s hI hO 0 (by omega) x w h (by omega);have n1:=pY x s hI hO 0 (by omega);have HX0:Hid _:=h;have HI:Hid _:=hI;have HO:Hid _:=hO;have hsh:=hI.sh;clear h hI hO;go_enter func49,ntmps49;go_wp2_with fail;refine l1.mono ?_;rintro e y1 ⟨rfl,h1,k1⟩;have si:Hid (Wr y1 wb L s (x.screen (s.aj 0) (s.dP 0))):=HX0.o.step k1 h1;have Dz:Hid _:=k1;have c0:=si.o.c0;have l2:=PK L s y1 si.o.te;have hfd:∀u:World,(Instr.field 127 (.agg #[.int .i64 s.row,.int .i64 s.col,.bool s.waits,.bool s.pen.b,.bool s.pen.u,.bool s.pen.t,.int .i64 s.pen.f,.int .i64 s.pen.k,.int .i64 s.first,.int .i64 s.second,.int .i64 s.use,.bool s.origin,.int .i64 s.top,.int .i64 s.bottom,.bool s.wrap,.bool s.insert,.int .i64 s.shown]) 5).run prog u= .ok (.int .i64 s.shown) u:=by intro u;kernel_rfl
 obtain⟨x1,hx1⟩:∃x1,x1=x.screen (s.aj 0) (s.dP 0):=⟨_,rfl⟩;rw[←hx1]at si n1;have HXE:Hid (x.ek s=x1.second s):=by show _=_;rw[hx1];rfl
 clear h1 k1 l1 hx1;rcases hsh with hsh|hsh
 ·have HNS:Hid _:=hsh;have hs0:(s.shown==1)=false:=by rw[hsh];rfl
  clear hsh;go_wp2_with fail;refine l2.mono ?_;rintro e y2 ⟨rfl,q2⟩;have uk:Hid (Wr y2 wb L s x1):=si.o.keep q2.nI;have Gs:Hid (Wk wb w y2):=Dz.o.trans (Wk.of_below q2.nI (iH si.o.lt));clear q2 l2 c0;have l3:=Cz wb L s HI.o HO.o 1 (by omega) x1 y2 uk.o;cases hfr:WS.pO (s.aj 1) (s.dP 1)with
  |true=>
   have pz:Hid (x.ek s=x1):=by show _=_;rw[HXE.o];unfold WS.second;rw[aG (by rw[HNS.o];decide),show WS.pO s.s1 s.v1=true from hfr,aS rfl]
   rw[hfr]at l3;go_wp2_with fail;refine l3.mono ?_;rintro e y3 ⟨rfl,b3⟩;have HF:Hid (eB y3 wb L.tb (x.ek s)∧Wk wb w y3):=⟨by rw[pz.o];exact uk.o.wr.keep b3,Gs.o.trans (Wk.of_below b3 (iH uk.o.lt))⟩;clear b3 l3;go_wp2_with fail;refine gL (lF rfl _ _ _) rfl ?_;exact⟨rfl,HF.o.1,HF.o.2⟩
  |false=>
   have pz:Hid (x.ek s=((x1.seq [63,52,55,104]).screen (s.aj 1) (s.dP 1)).seq [63,52,55,108]):=by show _=_;rw[HXE.o];unfold WS.second;rw[aG (by rw[HNS.o];decide),show WS.pO s.s1 s.v1=false from hfr,aG (by decide)];rfl
   rw[hfr]at l3;go_wp2_with fail;refine l3.mono ?_;rintro e y3 ⟨rfl,b3⟩;have sj:Hid (Wr y3 wb L s x1):=uk.o.keep b3;have Gt:Hid (Wk wb w y3):=Gs.o.trans (Wk.of_below b3 (iH uk.o.lt));have l4:=dM wb L.tb x1 {data:=#[63,52,55,104]} y3 sj.o.wr (by omega) (by decide);rw[show bl ({data:=#[63,52,55,104]}:ByteArray)=[63,52,55,104] by rfl]at l4;have n4:=iJ x1 [63,52,55,104];simp only[fB,dH]at n4;clear b3 l3 uk Gs;go_wp2_with fail;refine l4.mono ?_;rintro e y4 ⟨rfl,h4,k4⟩;have DD:Hid (Wr y4 wb L s (x1.seq [63,52,55,104])):=sj.o.step k4 h4;have Qm:Hid (Wk wb w y4):=Gt.o.trans k4;have l5:=vV wb L s HI.o HO.o 1 (by omega) (x1.seq [63,52,55,104]) y4 DD.o (by omega);have n5:=pY (x1.seq [63,52,55,104]) s HI.o HO.o 1 (by omega);clear h4 k4 l4 sj Gt;go_wp2_with fail;refine l5.mono ?_;rintro e y5 ⟨rfl,h5,k5⟩;have Wx:Hid (Wk wb w y5):=Qm.o.trans k5;have l6:=dM wb L.tb ((x1.seq [63,52,55,104]).screen (s.aj 1) (s.dP 1)) {data:=#[63,52,55,108]} y5 h5 (by omega) (by decide);rw[show bl ({data:=#[63,52,55,108]}:ByteArray)=[63,52,55,108] by rfl]at l6;clear h5 k5 l5 DD Qm;go_wp2_with fail;refine l6.mono ?_;rintro e y6 ⟨rfl,h6,k6⟩;have HF:Hid (eB y6 wb L.tb (x.ek s)∧Wk wb w y6):=⟨by rw[pz.o];exact h6,Wx.o.trans k6⟩;clear h6 k6 l6;go_wp2_with fail;go_end0;exact⟨rfl,HF.o.1,HF.o.2⟩
 ·have pz:Hid (x.ek s=(x1.seq [63,52,55,104]).screen (s.aj 1) (s.dP 1)):=by show _=_;rw[HXE.o];unfold WS.second;rw[aS hsh];rfl
  have hs0:(s.shown==1)=true:=by rw[hsh];rfl
  clear hsh;go_wp2_with fail;refine l2.mono ?_;rintro e y3 ⟨rfl,q2⟩;have sj:Hid (Wr y3 wb L s x1):=si.o.keep q2.nI;have Gt:Hid (Wk wb w y3):=Dz.o.trans (Wk.of_below q2.nI (iH si.o.lt));have l4:=dM wb L.tb x1 {data:=#[63,52,55,104]} y3 sj.o.wr (by omega) (by decide);rw[show bl ({data:=#[63,52,55,104]}:ByteArray)=[63,52,55,104] by rfl]at l4;have n4:=iJ x1 [63,52,55,104];simp only[fB,dH]at n4;clear q2 l2 c0;go_wp2_with fail;refine l4.mono ?_;rintro e y4 ⟨rfl,h4,k4⟩;have DD:Hid (Wr y4 wb L s (x1.seq [63,52,55,104])):=sj.o.step k4 h4;have Qm:Hid (Wk wb w y4):=Gt.o.trans k4;have l5:=vV wb L s HI.o HO.o 1 (by omega) (x1.seq [63,52,55,104]) y4 DD.o (by omega);clear h4 k4 l4 sj Gt;go_wp2_with fail;refine l5.mono ?_;rintro e y5 ⟨rfl,h5,k5⟩;have HF:Hid (eB y5 wb L.tb (x.ek s)∧Wk wb w y5):=⟨by rw[pz.o];exact h5,Qm.o.trans k5⟩;clear h5 k5 l5;go_wp2_with fail;go_end0;exact⟨rfl,HF.o.1,HF.o.2⟩
end Go.Proofs.YtheibfffilomcabGreatDoor
