import Derived.Test.YtheibfffilomcaaGreatDoorTmaU
import Derived.Test.YtheibfffilomcaaGreatDoorZh
import Derived.Test.YtheibfffilomcaaGreatDoorZgU
import Derived.Test.YtheibfffilomcaaGreatDoorVcU
import Derived.Test.YtheibfffilomcaaGreatDoorVfU
import Derived.Test.YtheibfffilomcaaGreatDoorVtU
import Derived.Deep.DeepCutAuto
set_option linter.all false
set_option maxRecDepth 100000
set_option maxHeartbeats 4000000
namespace Go.Proofs.YtheibfffilomcaaGreatDoor
open Go.RowKit Go.Proofs.Tryz
variable {d:DT} {u:World} {Q:Exit→Act→World→Prop} {a:Act} {K:Act→World→Prop}
theorem LY(d:Nat)(p q:di)(w:World):(Op.equalIn (d+3) 82 (.agg (aB p).toArray) (.agg (aB q).toArray)).run prog w= .ok (decide (p=q)) w:=by
 have hu:prog.underlying 82=some (.struct (prog.fieldsOf 82)):=by kernel_rfl
 have hp:prog.stoodInHeld 82=false:=by kernel_rfl
 rw[run_equalIn_struct w (d+2) 82 _ _ hu hp];rw[vN (d+2) _ _ w _ [(3,0,p.row==q.row),(3,1,p.col==q.col),(4,2,p.waits==q.waits),(80,3,decide (p.pen=q.pen)),(3,8,p.first==q.first),(3,9,p.second==q.second),(3,10,p.use==q.use),(4,11,p.origin==q.origin)] (pV (by kernel_rfl)) (by kernel_rfl) ?_]
 ·refine congrArg (fun z=>Result.ok z w) ?_;obtain⟨a1,a2,a3,a4,a5,a6,a7,a8⟩:=p;obtain⟨b1,b2,b3,b4,b5,b6,b7,b8⟩:=q;simp only[List.all_cons,List.all_nil,di.mk.injEq,Bool.and_true];rw[Bool.eq_iff_iff];simp
 ·intro x hx;simp only[kK,pX,pY]at hx;rcases hx with rfl|rfl|rfl|rfl|rfl|rfl|rfl|rfl
  ·exact⟨_,_,oF _ 0 p.row rfl w,oF _ 0 q.row rfl w,UI (d+1) _ _ w⟩
  ·exact⟨_,_,oF _ 1 p.col rfl w,oF _ 1 q.col rfl w,UI (d+1) _ _ w⟩
  ·exact⟨_,_,wY _ 2 p.waits rfl w,wY _ 2 q.waits rfl w,eqB (d+1) _ _ w⟩
  ·refine⟨_,_,Fa _ 3 w,Fa _ 3 w,?_⟩;exact eqP d p.pen q.pen w
  ·exact⟨_,_,oF _ 8 p.first rfl w,oF _ 8 q.first rfl w,UI (d+1) _ _ w⟩
  ·exact⟨_,_,oF _ 9 p.second rfl w,oF _ 9 q.second rfl w,UI (d+1) _ _ w⟩
  ·exact⟨_,_,oF _ 10 p.use rfl w,oF _ 10 q.use rfl w,UI (d+1) _ _ w⟩
  ·exact⟨_,_,wY _ 11 p.origin rfl w,wY _ 11 q.origin rfl w,eqB (d+1) _ _ w⟩
theorem LZ(p q:di)(w:World):(binOp .eql 82 (.agg (aB p).toArray) (.agg (aB q).toArray)).run prog w= .ok (.bool (decide (p=q))) w:=by rw[run_eql_struct,LY 9997];rfl
theorem oQ{ops:Array Oper}{rest:List Oper}{o:Oper}(hgd:o.guard=none)(x y:Operand)(ho:o.op= .binOp .eql 82 x y 82)(p q:di)(hx:a.eval x= .agg (aB p).toArray)(arr:Array Value)(hy:a.eval y= .agg arr)(harr:arr=(aB q).toArray)(b:Bool)(hb:decide (p=q)=b)(h:wpList prog ops Q rest (a.put o.dst (.bool b)) u):wpList prog ops Q (o::rest) a u:=by
 subst harr hb;refine oq hgd fun K hK=>?_;have R:=hK _ _ h;unfold Oper.wp execOp;simp only[ho,hx,hy,jV,JR 82 (.inr (.inl rfl)),LZ,jU,mK];exact R
def SK:List Value:=[.int .i64 0,.int .i64 0,.bool false,.bool false,.bool false,.bool false,.int .i64 0,.int .i64 0,.int .i64 0,.int .i64 0,.int .i64 0,.bool false]
theorem IG(wb:Nat)(L:Lay)(s:TS)(p:di)(hf:p.first=0∨p.first=1)(hs:p.second=0∨p.second=1)(hu:p.use=0∨p.use=1)(x:WS)(w:World)(h:Wr w wb L s x)(hx:x.tx.length≤300001000):
 Calls prog 232 #[.pointer (some ⟨wb,0,none⟩),.agg (aB p).toArray] w fun e w'=>e= .returned (.tuple #[])∧iK w' wb L.tb (x.bW p)∧Wk wb w w':=by
 have hlt:=h.lt;obtain⟨W,hW⟩:∃W,W=w.alloc (.cells (aB p).toArray 82):=⟨_,rfl⟩;have GW:W.heap[w.heap.size]? =some (.cells (aB p).toArray 82 (0,0)):=by rw[hW];exact bV _ _
 have BW:Below w.heap.size w W:=by rw[hW];exact(dU _ _).alloc (bN _) _
 have HX0:Hid (Wr W wb L s x):=h.keep BW;have De:Hid (Wk wb w W):=Wk.of_below BW (kW hlt);have nK:Hid _:=GW;have HW:Hid _:=hW;have i2:=(jM (bV w (.cells (aB p).toArray 82))).2.2.2.2.2.2;have XC:∀y:World,y.heap[w.heap.size]? =some (.cells (aB p).toArray 82 (0,0))→_:=fun y hy=>jM hy;have j1:=(jM (bV w (.cells (aB p).toArray 82))).2.2.2.1;have j2:=(jM (bV w (.cells (aB p).toArray 82))).2.2.2.2.1;have j3:=(jM (bV w (.cells (aB p).toArray 82))).2.2.2.2.2.1;clear h hW GW BW;go_enter func232,ntmps232;cases ho:p.origin with
 |false=>
  rw[ho]at i2;rcases hf with hf|hf
  ·rw[hf]at j1;rcases hs with hs|hs
   ·rw[hs]at j2;rcases hu with hu|hu
    ·rw[hu]at j3;go_wp2_with fail;rw[←HW.o];go_end0;have he:x.bW p=x:=by unfold WS.bW WS.bk1 WS.bk2 WS.y_ WS.zn;rw[ho,hf,hs,hu];rfl
     exact⟨rfl,by rw[he];exact HX0.o.wr,De.o⟩
    ·rw[hu]at j3;have l9:=aG wb L.tb (x) {data:=#[15]} W HX0.o.wr (by omega) (by decide);rw[gD _ (show bl ({data:=#[15]}:ByteArray)=[15] by rfl)]at l9;rw[HW.o]at l9;go_wp2_with fail;refine l9.mono ?_;rintro e z1 ⟨⟨v9,rfl⟩,h9,k9⟩;rw[←HW.o]at k9;have PM:Hid (Wr z1 wb L s ((x).put [15])):=HX0.o.step k9 h9;have TD:Hid (z1.heap[w.heap.size]? =some (.cells (aB p).toArray 82 (0,0))):=k9.at nK.o (by omega) (by decide);have TJ:Hid (Wk wb w z1):=De.o.trans k9;have n2:=dV (x) [15];simp only[fE,eP]at n2;clear h9 k9 HX0 nK De;go_wp2_with fail;go_end0;have he:x.bW p=(x).put [15]:=by unfold WS.bW WS.bk1 WS.bk2 WS.y_ WS.zn;rw[ho,hf,hs,hu];rfl
     exact⟨rfl,by rw[he];exact PM.o.wr,TJ.o⟩
   ·rw[hs]at j2;have l9:=aG wb L.tb (x) {data:=#[27,41,66]} W HX0.o.wr (by omega) (by decide);rw[gD _ (show bl ({data:=#[27,41,66]}:ByteArray)=[27,41,66] by rfl)]at l9;rw[HW.o]at l9;go_wp2_with fail;refine l9.mono ?_;rintro e z3 ⟨⟨v9,rfl⟩,h9,k9⟩;rw[←HW.o]at k9;have xu:Hid (Wr z3 wb L s ((x).put [27,41,66])):=HX0.o.step k9 h9;have uK:Hid (z3.heap[w.heap.size]? =some (.cells (aB p).toArray 82 (0,0))):=k9.at nK.o (by omega) (by decide);have AX:Hid (Wk wb w z3):=De.o.trans k9;have n4:=dV (x) [27,41,66];simp only[fE,eP]at n4;clear h9 k9 HX0 nK De;rcases hu with hu|hu
    ·have bO:=(XC z3 uK.o).2.2.2.2.2.1;rw[hu]at bO;go_wp2_with fail;go_end0;have he:x.bW p=(x).put [27,41,66]:=by unfold WS.bW WS.bk1 WS.bk2 WS.y_ WS.zn;rw[ho,hf,hs,hu];rfl
     exact⟨rfl,by rw[he];exact xu.o.wr,AX.o⟩
    ·have bO:=(XC z3 uK.o).2.2.2.2.2.1;rw[hu]at bO;have l9:=aG wb L.tb ((x).put [27,41,66]) {data:=#[15]} z3 xu.o.wr (by omega) (by decide);rw[gD _ (show bl ({data:=#[15]}:ByteArray)=[15] by rfl)]at l9;go_wp2_with fail;refine l9.mono ?_;rintro e z5 ⟨⟨v9,rfl⟩,h9,k9⟩;have Xj:Hid (Wr z5 wb L s (((x).put [27,41,66]).put [15])):=xu.o.step k9 h9;have adQ:Hid (z5.heap[w.heap.size]? =some (.cells (aB p).toArray 82 (0,0))):=k9.at uK.o (by omega) (by decide);have WO:Hid (Wk wb w z5):=AX.o.trans k9;have n6:=dV ((x).put [27,41,66]) [15];simp only[fE,eP]at n6;clear h9 k9 xu uK AX;go_wp2_with fail;go_end0;have he:x.bW p=((x).put [27,41,66]).put [15]:=by unfold WS.bW WS.bk1 WS.bk2 WS.y_ WS.zn;rw[ho,hf,hs,hu];rfl
     exact⟨rfl,by rw[he];exact Xj.o.wr,WO.o⟩
  ·rw[hf]at j1;have l9:=aG wb L.tb (x) {data:=#[27,40,66]} W HX0.o.wr (by omega) (by decide);rw[gD _ (show bl ({data:=#[27,40,66]}:ByteArray)=[27,40,66] by rfl)]at l9;rw[HW.o]at l9;go_wp2_with fail;refine l9.mono ?_;rintro e z7 ⟨⟨v9,rfl⟩,h9,k9⟩;rw[←HW.o]at k9;have Jm:Hid (Wr z7 wb L s ((x).put [27,40,66])):=HX0.o.step k9 h9;have Gb:Hid (z7.heap[w.heap.size]? =some (.cells (aB p).toArray 82 (0,0))):=k9.at nK.o (by omega) (by decide);have PD:Hid (Wk wb w z7):=De.o.trans k9;have n8:=dV (x) [27,40,66];simp only[fE,eP]at n8;clear h9 k9 HX0 nK De;rcases hs with hs|hs
   ·have bU:=(XC z7 Gb.o).2.2.2.2.1;rw[hs]at bU;rcases hu with hu|hu
    ·have bO:=(XC z7 Gb.o).2.2.2.2.2.1;rw[hu]at bO;go_wp2_with fail;go_end0;have he:x.bW p=(x).put [27,40,66]:=by unfold WS.bW WS.bk1 WS.bk2 WS.y_ WS.zn;rw[ho,hf,hs,hu];rfl
     exact⟨rfl,by rw[he];exact Jm.o.wr,PD.o⟩
    ·have bO:=(XC z7 Gb.o).2.2.2.2.2.1;rw[hu]at bO;have l9:=aG wb L.tb ((x).put [27,40,66]) {data:=#[15]} z7 Jm.o.wr (by omega) (by decide);rw[gD _ (show bl ({data:=#[15]}:ByteArray)=[15] by rfl)]at l9;go_wp2_with fail;refine l9.mono ?_;rintro e z9 ⟨⟨v9,rfl⟩,h9,k9⟩;have Eu:Hid (Wr z9 wb L s (((x).put [27,40,66]).put [15])):=Jm.o.step k9 h9;have En:Hid (z9.heap[w.heap.size]? =some (.cells (aB p).toArray 82 (0,0))):=k9.at Gb.o (by omega) (by decide);have Ji:Hid (Wk wb w z9):=PD.o.trans k9;have n10:=dV ((x).put [27,40,66]) [15];simp only[fE,eP]at n10;clear h9 k9 Jm Gb PD;go_wp2_with fail;go_end0;have he:x.bW p=((x).put [27,40,66]).put [15]:=by unfold WS.bW WS.bk1 WS.bk2 WS.y_ WS.zn;rw[ho,hf,hs,hu];rfl
     exact⟨rfl,by rw[he];exact Eu.o.wr,Ji.o⟩
   ·have bU:=(XC z7 Gb.o).2.2.2.2.1;rw[hs]at bU;have l9:=aG wb L.tb ((x).put [27,40,66]) {data:=#[27,41,66]} z7 Jm.o.wr (by omega) (by decide);rw[gD _ (show bl ({data:=#[27,41,66]}:ByteArray)=[27,41,66] by rfl)]at l9;go_wp2_with fail;refine l9.mono ?_;rintro e z11 ⟨⟨v9,rfl⟩,h9,k9⟩;have Dj:Hid (Wr z11 wb L s (((x).put [27,40,66]).put [27,41,66])):=Jm.o.step k9 h9;have F_:Hid (z11.heap[w.heap.size]? =some (.cells (aB p).toArray 82 (0,0))):=k9.at Gb.o (by omega) (by decide);have Gc:Hid (Wk wb w z11):=PD.o.trans k9;have n12:=dV ((x).put [27,40,66]) [27,41,66];simp only[fE,eP]at n12;clear h9 k9 Jm Gb PD;rcases hu with hu|hu
    ·have bO:=(XC z11 F_.o).2.2.2.2.2.1;rw[hu]at bO;go_wp2_with fail;go_end0;have he:x.bW p=((x).put [27,40,66]).put [27,41,66]:=by unfold WS.bW WS.bk1 WS.bk2 WS.y_ WS.zn;rw[ho,hf,hs,hu];rfl
     exact⟨rfl,by rw[he];exact Dj.o.wr,Gc.o⟩
    ·have bO:=(XC z11 F_.o).2.2.2.2.2.1;rw[hu]at bO;have l9:=aG wb L.tb (((x).put [27,40,66]).put [27,41,66]) {data:=#[15]} z11 Dj.o.wr (by omega) (by decide);rw[gD _ (show bl ({data:=#[15]}:ByteArray)=[15] by rfl)]at l9;go_wp2_with fail;refine l9.mono ?_;rintro e z13 ⟨⟨v9,rfl⟩,h9,k9⟩;have aau:Hid (Wr z13 wb L s ((((x).put [27,40,66]).put [27,41,66]).put [15])):=Dj.o.step k9 h9;have agr:Hid (z13.heap[w.heap.size]? =some (.cells (aB p).toArray 82 (0,0))):=k9.at F_.o (by omega) (by decide);have ZK:Hid (Wk wb w z13):=Gc.o.trans k9;have n14:=dV (((x).put [27,40,66]).put [27,41,66]) [15];simp only[fE,eP]at n14;clear h9 k9 Dj F_ Gc;go_wp2_with fail;go_end0;have he:x.bW p=(((x).put [27,40,66]).put [27,41,66]).put [15]:=by unfold WS.bW WS.bk1 WS.bk2 WS.y_ WS.zn;rw[ho,hf,hs,hu];rfl
     exact⟨rfl,by rw[he];exact aau.o.wr,ZK.o⟩
 |true=>
  rw[ho]at i2;have l9:=gT wb L.tb (x) {data:=#[63,54,108]} W HX0.o.wr (by omega) (by decide);rw[show bl ({data:=#[63,54,108]}:ByteArray)=[63,54,108] by rfl]at l9;rw[HW.o]at l9;go_wp2_with fail;refine l9.mono ?_;rintro e z15 ⟨rfl,h9,k9⟩;rw[←HW.o]at k9;have rq:Hid (Wr z15 wb L s ((x).seq [63,54,108])):=HX0.o.step k9 h9;have p_:Hid (z15.heap[w.heap.size]? =some (.cells (aB p).toArray 82 (0,0))):=k9.at nK.o (by omega) (by decide);have wS:Hid (Wk wb w z15):=De.o.trans k9;have n16:=kZ (x) [63,54,108];simp only[fE,eP]at n16;clear h9 k9 HX0 nK De;rcases hf with hf|hf
  ·have je:=(XC z15 p_.o).2.2.2.1;rw[hf]at je;rcases hs with hs|hs
   ·have bU:=(XC z15 p_.o).2.2.2.2.1;rw[hs]at bU;rcases hu with hu|hu
    ·have bO:=(XC z15 p_.o).2.2.2.2.2.1;rw[hu]at bO;go_wp2_with fail;go_end0;have he:x.bW p=(x).seq [63,54,108]:=by unfold WS.bW WS.bk1 WS.bk2 WS.y_ WS.zn;rw[ho,hf,hs,hu];rfl
     exact⟨rfl,by rw[he];exact rq.o.wr,wS.o⟩
    ·have bO:=(XC z15 p_.o).2.2.2.2.2.1;rw[hu]at bO;have l9:=aG wb L.tb ((x).seq [63,54,108]) {data:=#[15]} z15 rq.o.wr (by omega) (by decide);rw[gD _ (show bl ({data:=#[15]}:ByteArray)=[15] by rfl)]at l9;go_wp2_with fail;refine l9.mono ?_;rintro e z17 ⟨⟨v9,rfl⟩,h9,k9⟩;have uA:Hid (Wr z17 wb L s (((x).seq [63,54,108]).put [15])):=rq.o.step k9 h9;have rU:Hid (z17.heap[w.heap.size]? =some (.cells (aB p).toArray 82 (0,0))):=k9.at p_.o (by omega) (by decide);have xY:Hid (Wk wb w z17):=wS.o.trans k9;have n18:=dV ((x).seq [63,54,108]) [15];simp only[fE,eP]at n18;clear h9 k9 rq p_ wS;go_wp2_with fail;go_end0;have he:x.bW p=((x).seq [63,54,108]).put [15]:=by unfold WS.bW WS.bk1 WS.bk2 WS.y_ WS.zn;rw[ho,hf,hs,hu];rfl
     exact⟨rfl,by rw[he];exact uA.o.wr,xY.o⟩
   ·have bU:=(XC z15 p_.o).2.2.2.2.1;rw[hs]at bU;have l9:=aG wb L.tb ((x).seq [63,54,108]) {data:=#[27,41,66]} z15 rq.o.wr (by omega) (by decide);rw[gD _ (show bl ({data:=#[27,41,66]}:ByteArray)=[27,41,66] by rfl)]at l9;go_wp2_with fail;refine l9.mono ?_;rintro e z19 ⟨⟨v9,rfl⟩,h9,k9⟩;have Dl:Hid (Wr z19 wb L s (((x).seq [63,54,108]).put [27,41,66])):=rq.o.step k9 h9;have Ga:Hid (z19.heap[w.heap.size]? =some (.cells (aB p).toArray 82 (0,0))):=k9.at p_.o (by omega) (by decide);have Gd:Hid (Wk wb w z19):=wS.o.trans k9;have n20:=dV ((x).seq [63,54,108]) [27,41,66];simp only[fE,eP]at n20;clear h9 k9 rq p_ wS;rcases hu with hu|hu
    ·have bO:=(XC z19 Ga.o).2.2.2.2.2.1;rw[hu]at bO;go_wp2_with fail;go_end0;have he:x.bW p=((x).seq [63,54,108]).put [27,41,66]:=by unfold WS.bW WS.bk1 WS.bk2 WS.y_ WS.zn;rw[ho,hf,hs,hu];rfl
     exact⟨rfl,by rw[he];exact Dl.o.wr,Gd.o⟩
    ·have bO:=(XC z19 Ga.o).2.2.2.2.2.1;rw[hu]at bO;have l9:=aG wb L.tb (((x).seq [63,54,108]).put [27,41,66]) {data:=#[15]} z19 Dl.o.wr (by omega) (by decide);rw[gD _ (show bl ({data:=#[15]}:ByteArray)=[15] by rfl)]at l9;go_wp2_with fail;refine l9.mono ?_;rintro e z21 ⟨⟨v9,rfl⟩,h9,k9⟩;have aaw:Hid (Wr z21 wb L s ((((x).seq [63,54,108]).put [27,41,66]).put [15])):=Dl.o.step k9 h9;have agt:Hid (z21.heap[w.heap.size]? =some (.cells (aB p).toArray 82 (0,0))):=k9.at Ga.o (by omega) (by decide);have ZM:Hid (Wk wb w z21):=Gd.o.trans k9;have n22:=dV (((x).seq [63,54,108]).put [27,41,66]) [15];simp only[fE,eP]at n22;clear h9 k9 Dl Ga Gd;go_wp2_with fail;go_end0;have he:x.bW p=(((x).seq [63,54,108]).put [27,41,66]).put [15]:=by unfold WS.bW WS.bk1 WS.bk2 WS.y_ WS.zn;rw[ho,hf,hs,hu];rfl
     exact⟨rfl,by rw[he];exact aaw.o.wr,ZM.o⟩
  ·have je:=(XC z15 p_.o).2.2.2.1;rw[hf]at je;have l9:=aG wb L.tb ((x).seq [63,54,108]) {data:=#[27,40,66]} z15 rq.o.wr (by omega) (by decide);rw[gD _ (show bl ({data:=#[27,40,66]}:ByteArray)=[27,40,66] by rfl)]at l9;go_wp2_with fail;refine l9.mono ?_;rintro e z23 ⟨⟨v9,rfl⟩,h9,k9⟩;have qD:Hid (Wr z23 wb L s (((x).seq [63,54,108]).put [27,40,66])):=rq.o.step k9 h9;have o9:Hid (z23.heap[w.heap.size]? =some (.cells (aB p).toArray 82 (0,0))):=k9.at p_.o (by omega) (by decide);have uL:Hid (Wk wb w z23):=wS.o.trans k9;have n24:=dV ((x).seq [63,54,108]) [27,40,66];simp only[fE,eP]at n24;clear h9 k9 rq p_ wS;rcases hs with hs|hs
   ·have bU:=(XC z23 o9.o).2.2.2.2.1;rw[hs]at bU;rcases hu with hu|hu
    ·have bO:=(XC z23 o9.o).2.2.2.2.2.1;rw[hu]at bO;go_wp2_with fail;go_end0;have he:x.bW p=((x).seq [63,54,108]).put [27,40,66]:=by unfold WS.bW WS.bk1 WS.bk2 WS.y_ WS.zn;rw[ho,hf,hs,hu];rfl
     exact⟨rfl,by rw[he];exact qD.o.wr,uL.o⟩
    ·have bO:=(XC z23 o9.o).2.2.2.2.2.1;rw[hu]at bO;have l9:=aG wb L.tb (((x).seq [63,54,108]).put [27,40,66]) {data:=#[15]} z23 qD.o.wr (by omega) (by decide);rw[gD _ (show bl ({data:=#[15]}:ByteArray)=[15] by rfl)]at l9;go_wp2_with fail;refine l9.mono ?_;rintro e z25 ⟨⟨v9,rfl⟩,h9,k9⟩;have PO:Hid (Wr z25 wb L s ((((x).seq [63,54,108]).put [27,40,66]).put [15])):=qD.o.step k9 h9;have ZG:Hid (z25.heap[w.heap.size]? =some (.cells (aB p).toArray 82 (0,0))):=k9.at o9.o (by omega) (by decide);have Ps:Hid (Wk wb w z25):=uL.o.trans k9;have n26:=dV (((x).seq [63,54,108]).put [27,40,66]) [15];simp only[fE,eP]at n26;clear h9 k9 qD o9 uL;go_wp2_with fail;go_end0;have he:x.bW p=(((x).seq [63,54,108]).put [27,40,66]).put [15]:=by unfold WS.bW WS.bk1 WS.bk2 WS.y_ WS.zn;rw[ho,hf,hs,hu];rfl
     exact⟨rfl,by rw[he];exact PO.o.wr,Ps.o⟩
   ·have bU:=(XC z23 o9.o).2.2.2.2.1;rw[hs]at bU;have l9:=aG wb L.tb (((x).seq [63,54,108]).put [27,40,66]) {data:=#[27,41,66]} z23 qD.o.wr (by omega) (by decide);rw[gD _ (show bl ({data:=#[27,41,66]}:ByteArray)=[27,41,66] by rfl)]at l9;go_wp2_with fail;refine l9.mono ?_;rintro e z27 ⟨⟨v9,rfl⟩,h9,k9⟩;have Lt:Hid (Wr z27 wb L s ((((x).seq [63,54,108]).put [27,40,66]).put [27,41,66])):=qD.o.step k9 h9;have Lg:Hid (z27.heap[w.heap.size]? =some (.cells (aB p).toArray 82 (0,0))):=k9.at o9.o (by omega) (by decide);have Pv:Hid (Wk wb w z27):=uL.o.trans k9;have n28:=dV (((x).seq [63,54,108]).put [27,40,66]) [27,41,66];simp only[fE,eP]at n28;clear h9 k9 qD o9 uL;rcases hu with hu|hu
    ·have bO:=(XC z27 Lg.o).2.2.2.2.2.1;rw[hu]at bO;go_wp2_with fail;go_end0;have he:x.bW p=(((x).seq [63,54,108]).put [27,40,66]).put [27,41,66]:=by unfold WS.bW WS.bk1 WS.bk2 WS.y_ WS.zn;rw[ho,hf,hs,hu];rfl
     exact⟨rfl,by rw[he];exact Lt.o.wr,Pv.o⟩
    ·have bO:=(XC z27 Lg.o).2.2.2.2.2.1;rw[hu]at bO;have l9:=aG wb L.tb ((((x).seq [63,54,108]).put [27,40,66]).put [27,41,66]) {data:=#[15]} z27 Lt.o.wr (by omega) (by decide);rw[gD _ (show bl ({data:=#[15]}:ByteArray)=[15] by rfl)]at l9;go_wp2_with fail;refine l9.mono ?_;rintro e z29 ⟨⟨v9,rfl⟩,h9,k9⟩;have z_:Hid (Wr z29 wb L s (((((x).seq [63,54,108]).put [27,40,66]).put [27,41,66]).put [15])):=Lt.o.step k9 h9;have wR:Hid (z29.heap[w.heap.size]? =some (.cells (aB p).toArray 82 (0,0))):=k9.at Lg.o (by omega) (by decide);have Dh:Hid (Wk wb w z29):=Pv.o.trans k9;have n30:=dV ((((x).seq [63,54,108]).put [27,40,66]).put [27,41,66]) [15];simp only[fE,eP]at n30;clear h9 k9 Lt Lg Pv;go_wp2_with fail;go_end0;have he:x.bW p=((((x).seq [63,54,108]).put [27,40,66]).put [27,41,66]).put [15]:=by unfold WS.bW WS.bk1 WS.bk2 WS.y_ WS.zn;rw[ho,hf,hs,hu];rfl
     exact⟨rfl,by rw[he];exact z_.o.wr,Dh.o⟩
structure zl (s:TS) (p:di):Prop where
 r:0≤p.row∧p.row<(s.rows:Int)
 c:0≤p.col∧p.col<(s.ah:Int)
 fit:p.Fit s.ah
theorem xO(x:WS)(S:bS)(p:di)(top:Int):(x.aZ S p top).tx.length≤x.tx.length+80:=by
 have a1:(x.q9 p).tx.length≤x.tx.length+5:=by
  unfold WS.q9;split
  ·rw[kZ];simp
  ·omega
 have a2:∀y:WS,∀r,(y.rH S p r).tx.length≤y.tx.length+32:=fun y r=>by
  unfold WS.rH;split
  ·exact xP _ _ _ _
  ·have:=mG y r p.col;omega
 have a4:∀y:WS,(y.rQ p).tx.length≤y.tx.length+3:=fun y=>by unfold WS.rQ;split;rw[dV];simp;omega
 have a5:∀y:WS,(y.sK p).tx.length≤y.tx.length+3:=fun y=>by unfold WS.sK;split;rw[dV];simp;omega
 have a6:∀y:WS,(y.sU p).tx.length≤y.tx.length+1:=fun y=>by unfold WS.sU;split;rw[dV];simp;omega
 unfold WS.aZ;have b2:=a2 (x.q9 p) (if p.origin then p.row-top else p.row);have b3:=qV ((x.q9 p).rH S p (if p.origin then p.row-top else p.row)) p.pen;have b4:=a4 (((x.q9 p).rH S p (if p.origin then p.row-top else p.row)).turn p.pen);have b5:=a5 ((((x.q9 p).rH S p (if p.origin then p.row-top else p.row)).turn p.pen).rQ p);have b6:=a6 (((((x.q9 p).rH S p (if p.origin then p.row-top else p.row)).turn p.pen).rQ p).sK p);omega
theorem FC(x:WS)(p:di):(x.bW p).tx.length≤x.tx.length+20:=by
 have a1:(x.bk1 p).tx.length≤x.tx.length+5:=by
  unfold WS.bk1;split
  ·rw[kZ];simp
  ·omega
 have a4:∀y:WS,(y.bk2 p).tx.length≤y.tx.length+3:=fun y=>by unfold WS.bk2;split;rw[dV];simp;omega
 have a5:∀y:WS,(y.y_ p).tx.length≤y.tx.length+3:=fun y=>by unfold WS.y_;split;rw[dV];simp;omega
 have a6:∀y:WS,(y.zn p).tx.length≤y.tx.length+1:=fun y=>by unfold WS.zn;split;rw[dV];simp;omega
 unfold WS.bW;have b4:=a4 (x.bk1 p);have b5:=a5 ((x.bk1 p).bk2 p);have b6:=a6 (((x.bk1 p).bk2 p).y_ p);omega
theorem Oa(x:WS)(S:bS)(p:di):(x.saved S p).tx.length≤x.tx.length+102:=by
 unfold WS.saved;split
 ·omega
 ·have h1:=xO x S p 0;have h2:=FC ((x.aZ S p 0).put [27,55]) p;rw[dV]at h2;simp only[fE,eP]at h2;omega
theorem RJ(wb:Nat)(L:Lay)(s:TS)(hI:s.Inv)(hO:sV s)(n:Nat)(hn:n<2)(hp:zl s (s.gW n))(x:WS)(w:World)(h:Wr w wb L s x)(hx:x.tx.length≤200000000):
 Calls prog 203 #[.pointer (some ⟨wb,0,none⟩),.int .i64 (n:Int)] w fun e w'=>e= .returned (.tuple #[])∧iK w' wb L.tb (x.saved (s.az n) (s.gW n))∧Wk wb w w':=by
 have c0:=h.c0;have hlt:=h.lt;have l1:=Cb L s n hn w h.te;have HX0:Hid _:=h;have HI:Hid _:=hI;have HO:Hid _:=hO;generalize s.gW n=p at*;clear h hI hO;go_enter func203,ntmps203;go_wp2_with fail;refine l1.mono ?_;rintro e x1 ⟨rfl,q1⟩;go_wp2_with (refine bK _ rfl 82 (.tmp 4) (.tmp 10) rfl x1.heap.size SK (aB p) rfl _ rfl rfl 82 (bV _ _) rfl bH (iM _) ?_);intro y1 g1 k1 z1;have hq1:w.heap.size≤x1.heap.size:=q1.size;have B1:Below w.heap.size w y1:=(q1.iB.alloc q1.size (.cells SK.toArray 82)).trans (k1.below (by simp;omega) (fun k hk e=>by omega));have wz:Hid (Wr y1 wb L s x):=HX0.o.keep B1;have kR:Hid (Wk wb w y1):=Wk.of_below B1 (kW hlt);obtain⟨nb,hnb⟩:∃nb,nb=x1.heap.size:=⟨_,rfl⟩;rw[←hnb];rw[←hnb]at g1;have hwn:wb<nb:=by omega
 have nZ:Hid _:=g1;clear g1 k1 z1 q1 B1 HX0 c0 l1 hnb;by_cases hp0:p=aY
 ·have HD:Hid (decide (p=aY)=true):=iP hp0;have sP:Hid (x.saved (s.az n) p=x):=by show _=_;unfold WS.saved;rw[ak hp0]
  clear hp0;go_wp2_with (first|(refine fC rfl 82 (.tmp 4) rfl nb rfl 82 _ (0,0) _ nZ.o underlying82 rfl bH ?_)|(refine oQ rfl (.tmp 11) (.tmp 12) rfl p aY rfl _ rfl rfl true HD.o ?_));refine bX (dz rfl _ _ _) rfl ?_;exact⟨rfl,by rw[sP.o];exact wz.o.wr,kR.o⟩
 ·have HD:Hid (decide (p=aY)=false):=jh hp0;have sP:Hid (x.saved (s.az n) p=((x.aZ (s.az n) p 0).put [27,55]).bW p):=by show _=_;unfold WS.saved;rw[ai hp0]
  obtain⟨⟨pr0,pr1⟩,⟨pc0,pc1⟩,hfit⟩:=hp;have hr2:=HI.o.r2;have hrr:(if p.origin then p.row-0 else p.row)=((p.row.toNat:Nat):Int):=by split<;>omega
  have l2:=Eg wb L s HI.o HO.o n p.row.toNat p.col.toNat p.row.toNat 0 hn (by omega) (by omega) (by omega) p (by omega) (by omega) hfit.p hfit.f hfit.sc hfit.u hrr x y1 wz.o (by omega);have hfi:Hid _:=hfit;clear hp0 hrr hfit pr0 pr1 pc0 pc1;go_wp2_with (first|(refine fC rfl 82 (.tmp 4) rfl nb rfl 82 _ (0,0) _ nZ.o underlying82 rfl bH ?_)|(refine oQ rfl (.tmp 11) (.tmp 12) rfl p aY rfl _ rfl rfl false HD.o ?_));refine l2.mono ?_;rintro e y2 ⟨rfl,h2,k2⟩;have xZ:Hid (Wr y2 wb L s (x.aZ (s.az n) p 0)):=wz.o.step k2 h2;have HG2:Hid (y2.heap[nb]? =some (.cells (aB p).toArray 82 (0,0))):=k2.at nZ.o (by omega) (by decide);have mD:Hid (Wk wb w y2):=kR.o.trans k2;have n2:=xO x (s.az n) p 0;have l3:=aG wb L.tb (x.aZ (s.az n) p 0) {data:=#[27,55]} y2 h2 (by omega) (by decide);rw[gD _ (show bl ({data:=#[27,55]}:ByteArray)=[27,55] by rfl)]at l3;clear l2 h2 k2 wz nZ kR;go_wp2_with fail;refine l3.mono ?_;rintro e y3 ⟨⟨v3,rfl⟩,h3,k3⟩;have wD:Hid (Wr y3 wb L s ((x.aZ (s.az n) p 0).put [27,55])):=xZ.o.step k3 h3;have yY:Hid (y3.heap[nb]? =some (.cells (aB p).toArray 82 (0,0))):=k3.at HG2.o (by omega) (by decide);have Ep:Hid (Wk wb w y3):=mD.o.trans k3;have n3:=dV (x.aZ (s.az n) p 0) [27,55];simp only[fE,eP]at n3;have l4:=IG wb L s p hfi.o.f hfi.o.sc hfi.o.u ((x.aZ (s.az n) p 0).put [27,55]) y3 wD.o (by omega);clear l3 h3 k3 xZ HG2 mD;go_wp2_with (refine fC rfl 82 (.tmp 4) rfl nb rfl 82 _ (0,0) _ yY.o underlying82 rfl bH ?_);refine l4.mono ?_;rintro e y4 ⟨rfl,h4,k4⟩;have HF:Hid (iK y4 wb L.tb (x.saved (s.az n) p)∧Wk wb w y4):=⟨by rw[sP.o];exact h4,Ep.o.trans k4⟩;clear h4 k4;go_wp2_with fail;go_end0;exact⟨rfl,HF.o.1,HF.o.2⟩
theorem Ih(n:Nat):∀(T:bS) (x:WS) (i:Nat),(∀r∈T,r.length≤n)→(WS.fu x i T).tx.length≤x.tx.length+32*n*T.length:=by
 intro T;induction T with
 |nil=>intro x i _;exact Nat.le_add_right _ _
 |cons r T ih=>intro x i hT;have h1:=ih (WS.runs i x 0 aD r) (i+1) (fun q hq=>hT q (by simp[hq]));have h2:=yG i r x 0 aD;have h3:=Nat.mul_le_mul_left 32 (hT r (by simp));show(WS.fu (WS.runs i x 0 aD r) (i+1) T).tx.length≤_;rw[fE,Nat.mul_succ];omega
theorem BQ:∀(T:bS) (x:WS) (i k:Nat) (r:List aI),T[k]? =some r→WS.fu x i (T.take (k+1))=WS.runs ((i+k:Nat):Int) (WS.fu x i (T.take k)) 0 aD r:=by
 intro T;induction T with
 |nil=>intro x i k r h;simp at h
 |cons q T ih=>
  intro x i k r h;cases k with
  |zero=>simp at h;subst h;rfl
  |succ k=>have:=ih (WS.runs i x 0 aD q) (i+1) k r (by simpa using h);show WS.fu (WS.runs i x 0 aD q) (i+1) (T.take (k+1))=_;rw[this,show i+1+k=i+(k+1) by omega];rfl
structure uM (s:TS):Prop where
 c:sV s
 r:∀n,n<2→∀q∈s.az n,q.length=s.ah∧∀c∈q,c.part=2∨c.Ok
 l:∀n,n<2→(s.az n).length=s.rows
 v:∀n,n<2→zl s (s.gW n)
theorem zJ(wb:Nat)(L:Lay)(s:TS)(hI:s.Inv)(hO:uM s)(n:Nat)(hn:n<2)(x:WS)(w:World)(h:Wr w wb L s x)(hx:x.tx.length≤100000000):
 Calls prog 144 #[.pointer (some ⟨wb,0,none⟩),.int .i64 (n:Int)] w fun e w'=>e= .returned (.tuple #[])∧iK w' wb L.tb (x.screen (s.az n) (s.gW n))∧Wk wb w w':=by
 have c0:=h.c0;have l1:=sF L s w h.te hI;have hr2:=hI.r2;have hc2:=hI.c2;have HX0:Hid _:=h;have HI:Hid _:=hI;have HO:Hid _:=hO;have HL:Hid ((s.az n).length=s.rows):=hO.l n hn;clear h hI hO;go_enter func144,ntmps144;go_wp2_with (go_at_call 147;refine l1.mono ?_;rintro e w1 ⟨rfl,hw1⟩;have hw2:=hw1.symm;subst hw2);go_loopw [16] (fun j wr=>∃k:Nat,k≤s.rows∧j= .int .i64 k∧Hid (Wr wr wb L s (WS.fu x 0 ((s.az n).take k)))∧Hid (Wk wb w wr)) (fun j _=>s.rows-(intOf j).toNat)
 case atStart=>exact⟨0,dx _,rfl,HX0.o,Wk.refl _ _⟩
 case round=>
  clear l1 c0;obtain⟨k,hk,rfl,HX,HK⟩:=hrel;have hlen:(WS.fu x 0 ((s.az n).take k)).tx.length≤x.tx.length+20000:=by
   have h1:=Ih 40 ((s.az n).take k) x 0 (fun r hr=>by have:=(HO.o.r n hn r (AL hr)).1;omega);have h2:((s.az n).take k).length≤12:=by rw[kg,HL.o];omega
   have:=Nat.mul_le_mul_left (32*40) h2;omega
  by_cases hkr:k<s.rows
  ·have ikr:(k:Int)<(s.rows:Int):=by omega
   have vk:IntKind.i64.wrap ((k:Int)+1)=(k:Int)+1:=bD _ (by omega);obtain⟨r,hr⟩:∃r,(s.az n)[k]? =some r:=⟨_,eG (by rw[HL.o];exact hkr)⟩;obtain⟨q1,q2⟩:=HO.o.r n hn r (iH hr);have hRe:r=(if n=0 then s.s0 else s.s1).getD k []:=by
    have:(s.az n).getD k []=r:=by simp[List.getD,hr]
    rw[←this];rfl
   have l2:=Vs wb L s HI.o n k hn hkr r hRe q1 q2 _ wr HX.o (by omega);have HE:Hid (WS.fu x 0 ((s.az n).take (k+1))=WS.runs k (WS.fu x 0 ((s.az n).take k)) 0 aD r):=by have:=BQ (s.az n) x 0 k r hr;rw[lH]at this;exact this
   clear hr q1 q2 hRe;go_wp2_with fail;refine l2.mono ?_;rintro e y2 ⟨rfl,h2,k2⟩;have xZ:Hid (Wr y2 wb L s (WS.fu x 0 ((s.az n).take (k+1)))):=HX.o.step k2 (by rw[HE.o];exact h2);have mD:Hid (Wk wb w y2):=HK.o.trans k2;clear h2 k2 l2 HX HK;go_wp2_with fail;go_roundw
   case rel=>exact⟨k+1,by omega,by go_num,xZ,mD⟩
   case measure=>simp[intOf];omega
  ·have ikr:¬(k:Int)<(s.rows:Int):=by omega
   have hke:(s.az n).take k=s.az n:=nL (by rw[HL.o];omega);rw[hke]at HX hlen;have l2:=RJ wb L s HI.o HO.o.c n hn (HO.o.v n hn) _ wr HX.o (by omega);clear hke;go_wp2_with fail;refine l2.mono ?_;rintro e y2 ⟨rfl,h2,k2⟩;have HF:Hid (iK y2 wb L.tb (x.screen (s.az n) (s.gW n))∧Wk wb w y2):=⟨h2,HK.o.trans k2⟩;clear h2 k2;go_wp2_with fail;go_end0;exact⟨rfl,HF.o.1,HF.o.2⟩
def Gm (l:List aI) (k:Nat):aI:=if k=0 then aD else l.getD (k-1) aD
theorem N_(row:Int):∀(l:List aI) (x:WS) (j:Nat) (b:aI) (k:Nat) (c:aI),l[k]? =some c→WS.runs row x j b (l.take (k+1))=(WS.runs row x j b (l.take k)).jL row (j+k) (if k=0 then b else l.getD (k-1) aD) c:=by
 intro l;induction l with
 |nil=>intro x j b k c h;simp at h
 |cons d l ih=>
  intro x j b k c h;cases k with
  |zero=>simp at h;subst h;rfl
  |succ k=>
   have:=ih (x.jL row j b d) (j+1) d k c (by simpa using h);show WS.runs row (x.jL row j b d) (j+1) d (l.take (k+1))=(WS.runs row (x.jL row j b d) (j+1) d (l.take k)).jL row _ _ c;rw[this,show j+1+k=j+(k+1) by omega]
   congr 1
   cases k with
   |zero=>simp
   |succ k=>simp
theorem N9(row:Int)(l:List aI)(x:WS)(k:Nat)(c:aI)(h:l[k]? =some c):WS.runs row x 0 aD (l.take (k+1))=(WS.runs row x 0 aD (l.take k)).jL row k (Gm l k) c:=by have:=N_ row l x 0 aD k c h;rw[lH]at this;exact this
theorem Kv(x:WS)(row:Int)(k:Nat)(b:aI):x.jL row k b aD=x:=by unfold WS.jL;rw[ak rfl]
theorem Vq(x:WS)(row:Int)(k:Nat)(b c:aI)(hc:c≠aD):(x.jL row k b c).tx=x.tx++((if b=aD then[27,91]++(lY row k++[72])else[])++(if c.part=2 then[]else wG x.pen c.p++oP c.r))∧(x.jL row k b c).pen=if c.part=2 then x.pen else c.p:=by unfold WS.jL WS.cell WS.turn WS.place WS.seq WS.put wG;rw[ai hc];by_cases h1:b=aD<;>by_cases h2:c.part=2<;>by_cases h3:c.p=x.pen<;>simp[h1,h2,h3]
theorem xI{fn:Func}{p q:Tmp}{ty:TypeId}{fs:Array Field}(h:fn.results= #[.tmp q,.cell p ty])(tmps:Array Value)(w:World)(g:Nat)(cs:List Value)(t:TypeId)(fr:Nat × Nat)(hu:prog.underlying ty=some (.struct fs))(hi:(prog.info? ty).map (·.size)=some cs.length)(hp:tmps.getD p undef= .pointer (some ⟨g,0,none⟩))(hg:w.heap[g]? =some (.cells cs.toArray t fr)):(results fn tmps).run prog w= .ok (.tuple #[tmps.getD q undef,.agg cs.toArray]) w:=by
 have hp':tmps[p]?.getD undef= .pointer (some ⟨g,0,none⟩):=by simpa using hp
 simp[results,h,hp',asAddr,run_loadVar_row w g t ty cs.toArray fr _ hg hu rfl (by simpa using hi)]
theorem Cg{o:Oper}{l:List Value}{ds:List Deferred}(d:Nat)(ho:o.op= .alloc 87)(hd:o.dst=some d)(h:K ⟨(l.set d (.pointer (some ⟨u.heap.size,0,none⟩))).toArray,ds⟩ (u.alloc (.cells (aT (.slice none 0 0) aY).toArray 87))):Oper.wp prog o ⟨l.toArray,ds⟩ u K Q:=by unfold Oper.wp execOp;simp only[ho];go_simp;exact h
theorem uo{o:Oper}(ty:TypeId)(x y:Operand)(ho:o.op= .store ty x y)(hd:o.dst=none)(g:Nat)(L cs:List Value)(hx:a.eval x= .pointer (some ⟨g,0,none⟩))(hy:a.eval y= .agg cs.toArray)(t:TypeId)(G:u.heap[g]? =some (.cells L.toArray t (0,0)))(hl:L.length=cs.length)(hsz:(prog.info? ty).map (·.size)=some cs.length)(h1:∀v∈cs,v.oneCell'=true)(h:∀u',u'.heap[g]? =some (.cells cs.toArray t (0,0))→Ch (· =g) u u'→K a u'):Oper.wp prog o a u K Q:=by
 have hz:=size_setCells g cs 0 u;have c:Ch (· =g) u (u.setCells g 0 cs):=⟨hz.2.1,hz.2.2.1,hz.2.2.2,by omega,fun i _ hn=>iR g _ _ _ i hn⟩;have b:=nO (o:=0) (vs:=cs) G (by omega);refine wp_store_mid ty x y ho g 0 cs.toArray hx hy (by simpa using vI G (by omega:0+cs.length≤L.length)) (by simpa using hsz) (all_oneCell_toArray h1) ?_;rw[hd];refine h _ ?_ (by simpa using c);have e:List.drop (0+cs.length) L=[]:=by rw[lH, ←hl];simp
 rw[e]at b;simpa using b
theorem fK{w:World}{g:Nat}{L:List Value}{t:TypeId}{f:Nat × Nat}(h:w.heap[g]? =some (.cells L.toArray t f)):w.rangeAt g 0 L:=fun i v hv=>by rw[lH,bG _ _ _ _ _ _ h];simpa using hv
theorem Sy(a ah k m:Nat)(hm:m=k*ah):DT.wi ((a:Int)-(m:Int)) 0 (ah:Int)=(DT.pK a ah k:Int):=by unfold DT.wi DT.pK;rw[←hm];split<;>split<;>omega
theorem Qc(hs:d.t.shown=0)(a b:Nat):d.cleared a b= {d with d0:=DT.fq d.d0 a b d.t.ah d.t.rows}:=by unfold DT.cleared DT.setCur DT.cur;rw[ak hs,ak hs]
theorem Qd(hs:d.t.shown=1)(a b:Nat):d.cleared a b= {d with d1:=DT.fq d.d1 a b d.t.ah d.t.rows}:=by unfold DT.cleared DT.setCur DT.cur;rw[ai (by omega),ai (by omega)]
theorem DT.Ok.ls0(h:d.Ok):d.d0.length=d.t.rows:=by have:=h.inv.l0;have e:d.abs.s0=dM d.d0:=rfl;rw[e,bF]at this;exact this
theorem DT.Ok.ls1(h:d.Ok):d.d1.length=d.t.rows:=by have:=h.inv.l1;have e:d.abs.s1=dM d.d1:=rfl;rw[e,bF]at this;exact this
end Go.Proofs.YtheibfffilomcaaGreatDoor
