import Derived.Test.YtheibfffilomcaaGreatDoorTmaU
import Derived.Test.YtheibfffilomcaaGreatDoorVkU
import Derived.Deep.DeepCutAuto
set_option linter.all false
set_option maxRecDepth 100000
set_option maxHeartbeats 2000000
namespace Go.Proofs.YtheibfffilomcaaGreatDoor
open Go.RowKit Go.Proofs.Tryz
variable {d:DT}
theorem Hg{c:Int}(h:∀x∈([106,107,108,109,110,113,116,117,118,119,120]:List Int),x≠c):TS.mY c=c:=by unfold TS.mY;rw[ai (fun e=>h 106 (by simp) e.symm)];rw[ai (fun e=>h 107 (by simp) e.symm)];rw[ai (fun e=>h 108 (by simp) e.symm)];rw[ai (fun e=>h 109 (by simp) e.symm)];rw[ai (fun e=>h 110 (by simp) e.symm)];rw[ai (fun e=>h 113 (by simp) e.symm)];rw[ai (fun e=>h 116 (by simp) e.symm)];rw[ai (fun e=>h 117 (by simp) e.symm)];rw[ai (fun e=>h 118 (by simp) e.symm)];rw[ai (fun e=>h 119 (by simp) e.symm)];rw[ai (fun e=>h 120 (by simp) e.symm)]
theorem Dt(c:Int)(w:World):Calls prog 121 #[.int .i64 c] w fun e w'=>e= .returned (.int .i64 (TS.mY c))∧Sm w w':=by
 obtain⟨W,hW⟩:∃W,W=w.alloc (.cells #[.int .i64 9496,.int .i64 9488,.int .i64 9484,.int .i64 9492,.int .i64 9532,.int .i64 9472,.int .i64 9500,.int .i64 9508,.int .i64 9524,.int .i64 9516,.int .i64 9474] 3):=⟨_,rfl⟩;have GW:W.heap[w.heap.size]? =some (.cells #[.int .i64 9496,.int .i64 9488,.int .i64 9484,.int .i64 9492,.int .i64 9532,.int .i64 9472,.int .i64 9500,.int .i64 9508,.int .i64 9524,.int .i64 9516,.int .i64 9474] 3 (0,0)):=by rw[hW];exact bV _ _
 have SW:Sm w W:=by rw[hW];exact(Ch.refl _ _).alloc _
 have HW:Hid _:=hW;have F9:Hid _:=GW;have Cs:Hid _:=SW;clear hW GW SW;go_enter func121,ntmps121;go_wp2_with fail;rw[←HW.o];go_loopw [5] (fun i wr=>∃k:Nat,k≤11∧i= .int .i64 k∧wr=W∧∀j,j<k→([106,107,108,109,110,113,116,117,118,119,120]:List Int).getD j 0≠c) (fun i _=>11-(intOf i).toNat)
 case atStart=>exact⟨0,by omega,rfl,rfl,fun j hj=>by omega⟩
 case round=>
  obtain⟨k,hk,rfl,rfl,hm⟩:=hrel;have HM:Hid _:=hm;clear hm;rcases(show k=0∨k=1∨k=2∨k=3∨k=4∨k=5∨k=6∨k=7∨k=8∨k=9∨k=10∨k=11 by omega)with rfl|rfl|rfl|rfl|rfl|rfl|rfl|rfl|rfl|rfl|rfl|rfl
  ·have hv:wrap64 ((({data:=#[106,107,108,109,110,113,116,117,118,119,120]}:ByteArray)[(0:Nat)]'(by decide)).toNat:Int)=106:=by kernel_rfl
   have ct:wr.cell? ⟨w.heap.size,0,none⟩=some (.int .i64 9496):=(bG _ _ _ _ _ _ F9.o).trans rfl;by_cases hc:(106:Int)=c
   ·subst hc;go_wp2_with fail;go_ret;exact⟨rfl,Cs.o⟩
   ·have bc:((106:Int)==c)=false:=by simp[hc]
    have bc':decide ((106:Int)=c)=false:=by simp[hc]
    clear ct;go_wp2_with fail;go_roundw
    case rel=>exact⟨1,by omega,by go_num,trivial,fun j hj=>by
     by_cases e:j=0
     ·subst e;exact hc
     ·exact HM.o j (by omega)⟩
    case measure=>simp[intOf]
  ·have hv:wrap64 ((({data:=#[106,107,108,109,110,113,116,117,118,119,120]}:ByteArray)[(1:Nat)]'(by decide)).toNat:Int)=107:=by kernel_rfl
   have ct:wr.cell? ⟨w.heap.size,1,none⟩=some (.int .i64 9488):=(bG _ _ _ _ _ _ F9.o).trans rfl;by_cases hc:(107:Int)=c
   ·subst hc;go_wp2_with fail;go_ret;exact⟨rfl,Cs.o⟩
   ·have bc:((107:Int)==c)=false:=by simp[hc]
    have bc':decide ((107:Int)=c)=false:=by simp[hc]
    clear ct;go_wp2_with fail;go_roundw
    case rel=>exact⟨2,by omega,by go_num,trivial,fun j hj=>by
     by_cases e:j=1
     ·subst e;exact hc
     ·exact HM.o j (by omega)⟩
    case measure=>simp[intOf]
  ·have hv:wrap64 ((({data:=#[106,107,108,109,110,113,116,117,118,119,120]}:ByteArray)[(2:Nat)]'(by decide)).toNat:Int)=108:=by kernel_rfl
   have ct:wr.cell? ⟨w.heap.size,2,none⟩=some (.int .i64 9484):=(bG _ _ _ _ _ _ F9.o).trans rfl;by_cases hc:(108:Int)=c
   ·subst hc;go_wp2_with fail;go_ret;exact⟨rfl,Cs.o⟩
   ·have bc:((108:Int)==c)=false:=by simp[hc]
    have bc':decide ((108:Int)=c)=false:=by simp[hc]
    clear ct;go_wp2_with fail;go_roundw
    case rel=>exact⟨3,by omega,by go_num,trivial,fun j hj=>by
     by_cases e:j=2
     ·subst e;exact hc
     ·exact HM.o j (by omega)⟩
    case measure=>simp[intOf]
  ·have hv:wrap64 ((({data:=#[106,107,108,109,110,113,116,117,118,119,120]}:ByteArray)[(3:Nat)]'(by decide)).toNat:Int)=109:=by kernel_rfl
   have ct:wr.cell? ⟨w.heap.size,3,none⟩=some (.int .i64 9492):=(bG _ _ _ _ _ _ F9.o).trans rfl;by_cases hc:(109:Int)=c
   ·subst hc;go_wp2_with fail;go_ret;exact⟨rfl,Cs.o⟩
   ·have bc:((109:Int)==c)=false:=by simp[hc]
    have bc':decide ((109:Int)=c)=false:=by simp[hc]
    clear ct;go_wp2_with fail;go_roundw
    case rel=>exact⟨4,by omega,by go_num,trivial,fun j hj=>by
     by_cases e:j=3
     ·subst e;exact hc
     ·exact HM.o j (by omega)⟩
    case measure=>simp[intOf]
  ·have hv:wrap64 ((({data:=#[106,107,108,109,110,113,116,117,118,119,120]}:ByteArray)[(4:Nat)]'(by decide)).toNat:Int)=110:=by kernel_rfl
   have ct:wr.cell? ⟨w.heap.size,4,none⟩=some (.int .i64 9532):=(bG _ _ _ _ _ _ F9.o).trans rfl;by_cases hc:(110:Int)=c
   ·subst hc;go_wp2_with fail;go_ret;exact⟨rfl,Cs.o⟩
   ·have bc:((110:Int)==c)=false:=by simp[hc]
    have bc':decide ((110:Int)=c)=false:=by simp[hc]
    clear ct;go_wp2_with fail;go_roundw
    case rel=>exact⟨5,by omega,by go_num,trivial,fun j hj=>by
     by_cases e:j=4
     ·subst e;exact hc
     ·exact HM.o j (by omega)⟩
    case measure=>simp[intOf]
  ·have hv:wrap64 ((({data:=#[106,107,108,109,110,113,116,117,118,119,120]}:ByteArray)[(5:Nat)]'(by decide)).toNat:Int)=113:=by kernel_rfl
   have ct:wr.cell? ⟨w.heap.size,5,none⟩=some (.int .i64 9472):=(bG _ _ _ _ _ _ F9.o).trans rfl;by_cases hc:(113:Int)=c
   ·subst hc;go_wp2_with fail;go_ret;exact⟨rfl,Cs.o⟩
   ·have bc:((113:Int)==c)=false:=by simp[hc]
    have bc':decide ((113:Int)=c)=false:=by simp[hc]
    clear ct;go_wp2_with fail;go_roundw
    case rel=>exact⟨6,by omega,by go_num,trivial,fun j hj=>by
     by_cases e:j=5
     ·subst e;exact hc
     ·exact HM.o j (by omega)⟩
    case measure=>simp[intOf]
  ·have hv:wrap64 ((({data:=#[106,107,108,109,110,113,116,117,118,119,120]}:ByteArray)[(6:Nat)]'(by decide)).toNat:Int)=116:=by kernel_rfl
   have ct:wr.cell? ⟨w.heap.size,6,none⟩=some (.int .i64 9500):=(bG _ _ _ _ _ _ F9.o).trans rfl;by_cases hc:(116:Int)=c
   ·subst hc;go_wp2_with fail;go_ret;exact⟨rfl,Cs.o⟩
   ·have bc:((116:Int)==c)=false:=by simp[hc]
    have bc':decide ((116:Int)=c)=false:=by simp[hc]
    clear ct;go_wp2_with fail;go_roundw
    case rel=>exact⟨7,by omega,by go_num,trivial,fun j hj=>by
     by_cases e:j=6
     ·subst e;exact hc
     ·exact HM.o j (by omega)⟩
    case measure=>simp[intOf]
  ·have hv:wrap64 ((({data:=#[106,107,108,109,110,113,116,117,118,119,120]}:ByteArray)[(7:Nat)]'(by decide)).toNat:Int)=117:=by kernel_rfl
   have ct:wr.cell? ⟨w.heap.size,7,none⟩=some (.int .i64 9508):=(bG _ _ _ _ _ _ F9.o).trans rfl;by_cases hc:(117:Int)=c
   ·subst hc;go_wp2_with fail;go_ret;exact⟨rfl,Cs.o⟩
   ·have bc:((117:Int)==c)=false:=by simp[hc]
    have bc':decide ((117:Int)=c)=false:=by simp[hc]
    clear ct;go_wp2_with fail;go_roundw
    case rel=>exact⟨8,by omega,by go_num,trivial,fun j hj=>by
     by_cases e:j=7
     ·subst e;exact hc
     ·exact HM.o j (by omega)⟩
    case measure=>simp[intOf]
  ·have hv:wrap64 ((({data:=#[106,107,108,109,110,113,116,117,118,119,120]}:ByteArray)[(8:Nat)]'(by decide)).toNat:Int)=118:=by kernel_rfl
   have ct:wr.cell? ⟨w.heap.size,8,none⟩=some (.int .i64 9524):=(bG _ _ _ _ _ _ F9.o).trans rfl;by_cases hc:(118:Int)=c
   ·subst hc;go_wp2_with fail;go_ret;exact⟨rfl,Cs.o⟩
   ·have bc:((118:Int)==c)=false:=by simp[hc]
    have bc':decide ((118:Int)=c)=false:=by simp[hc]
    clear ct;go_wp2_with fail;go_roundw
    case rel=>exact⟨9,by omega,by go_num,trivial,fun j hj=>by
     by_cases e:j=8
     ·subst e;exact hc
     ·exact HM.o j (by omega)⟩
    case measure=>simp[intOf]
  ·have hv:wrap64 ((({data:=#[106,107,108,109,110,113,116,117,118,119,120]}:ByteArray)[(9:Nat)]'(by decide)).toNat:Int)=119:=by kernel_rfl
   have ct:wr.cell? ⟨w.heap.size,9,none⟩=some (.int .i64 9516):=(bG _ _ _ _ _ _ F9.o).trans rfl;by_cases hc:(119:Int)=c
   ·subst hc;go_wp2_with fail;go_ret;exact⟨rfl,Cs.o⟩
   ·have bc:((119:Int)==c)=false:=by simp[hc]
    have bc':decide ((119:Int)=c)=false:=by simp[hc]
    clear ct;go_wp2_with fail;go_roundw
    case rel=>exact⟨10,by omega,by go_num,trivial,fun j hj=>by
     by_cases e:j=9
     ·subst e;exact hc
     ·exact HM.o j (by omega)⟩
    case measure=>simp[intOf]
  ·have hv:wrap64 ((({data:=#[106,107,108,109,110,113,116,117,118,119,120]}:ByteArray)[(10:Nat)]'(by decide)).toNat:Int)=120:=by kernel_rfl
   have ct:wr.cell? ⟨w.heap.size,10,none⟩=some (.int .i64 9474):=(bG _ _ _ _ _ _ F9.o).trans rfl;by_cases hc:(120:Int)=c
   ·subst hc;go_wp2_with fail;go_ret;exact⟨rfl,Cs.o⟩
   ·have bc:((120:Int)==c)=false:=by simp[hc]
    have bc':decide ((120:Int)=c)=false:=by simp[hc]
    clear ct;go_wp2_with fail;go_roundw
    case rel=>exact⟨11,by omega,by go_num,trivial,fun j hj=>by
     by_cases e:j=10
     ·subst e;exact hc
     ·exact HM.o j (by omega)⟩
    case measure=>simp[intOf]
  ·go_wp2_with fail;go_ret
   have hl:TS.mY c=c:=Hg (fun x hx=>by
    simp only[kK,pX,pY]at hx;rcases hx with rfl|rfl|rfl|rfl|rfl|rfl|rfl|rfl|rfl|rfl|rfl
    ·exact HM.o 0 (by omega)
    ·exact HM.o 1 (by omega)
    ·exact HM.o 2 (by omega)
    ·exact HM.o 3 (by omega)
    ·exact HM.o 4 (by omega)
    ·exact HM.o 5 (by omega)
    ·exact HM.o 6 (by omega)
    ·exact HM.o 7 (by omega)
    ·exact HM.o 8 (by omega)
    ·exact HM.o 9 (by omega)
    ·exact HM.o 10 (by omega))
   rw[hl];exact⟨rfl,Cs.o⟩
theorem aS{ops:Array Oper}{rest:List Oper}{o:Oper}{a:Act}{u:World}{Q:Exit→Act→World→Prop}(hgd:o.guard=none)(ty:TypeId)(hsz:(prog.info? ty).map (·.size)=some 1)(x y:Operand)(ho:o.op= .store ty x y)(hd:o.dst=none){tb:Nat}{v0 v1:Value}{fed:ByteArray}{done:Nat}(d':DT)(j:Nat)(v:Value)(hx:a.eval x= .pointer (some ⟨tb,j,none⟩))(hy:a.eval y=v)(hv:v.cells= #[v])(h1:v.oneCell'=true)(ht:bR u tb v0 v1 fed done d)(htl:d.tb.length=40)(hj:j<88)(hL:(rP v0 v1 fed done d).set j v=rP v0 v1 fed done d')(e0:d'.d0=d.d0)(e1:d'.d1=d.d1)(h:∀u',bR u' tb v0 v1 fed done d'→Ch (· =tb) u u'→wpList prog ops Q rest a u'):wpList prog ops Q (o::rest) a u:=
 oq hgd fun _ hK=>sN ty hsz x y ho hd j v hx hy hv h1 ht htl hj hL (e0▸ht.h0) (e1▸ht.h1) (fun u' t c=>hK _ _ (h u' t c))
theorem dL:(prog.info? 3).map (·.size)=some 1:=by kernel_rfl
theorem dZ:(prog.info? 4).map (·.size)=some 1:=by kernel_rfl
theorem ac7(ho:d.t.origin=true)(r c:Int):d.to r c= {d with t:={d.t with col:=DT.wi c 0 ((d.t.ah:Int)-1),row:=DT.wi (d.t.top+r) d.t.top d.t.bottom,waits:=false}}:=by show({d with t:={d.t with col:=DT.wi c 0 ((d.t.ah:Int)-1),row:=if d.t.origin=true then DT.wi (d.t.top+r) d.t.top d.t.bottom else DT.wi r 0 ((d.t.rows:Int)-1),waits:=false}}:DT)=_;rw[ak ho]
theorem acP(ho:d.t.origin=false)(r c:Int):d.to r c= {d with t:={d.t with col:=DT.wi c 0 ((d.t.ah:Int)-1),row:=DT.wi r 0 ((d.t.rows:Int)-1),waits:=false}}:=by show({d with t:={d.t with col:=DT.wi c 0 ((d.t.ah:Int)-1),row:=if d.t.origin=true then DT.wi (d.t.top+r) d.t.top d.t.bottom else DT.wi r 0 ((d.t.rows:Int)-1),waits:=false}}:DT)=_;rw[ai (by rw[ho];decide)]
theorem EM(tb:Nat)(v0 v1:Value)(fed:ByteArray)(done:Nat)(d:DT)(r c:Int)(w:World)(ht:bR w tb v0 v1 fed done d)(htl:d.tb.length=40)(hc2:d.t.ah≤40)(hr2:d.t.rows≤12)(ht0:0≤d.t.top)(htb:d.t.top≤d.t.bottom)(hb2:d.t.bottom<(d.t.rows:Int))(hr: -100000≤r∧r≤100000):Calls prog 139 #[.pointer (some ⟨tb,0,none⟩),.int .i64 r,.int .i64 c] w fun e w'=>e= .returned (.tuple #[])∧bR w' tb v0 v1 fed done (d.to r c)∧Ch (· =tb) w w':=by
 have c1:=ht.gX;have va:IntKind.i64.wrap ((d.t.ah:Int)-1)=(d.t.ah:Int)-1:=bD _ (by omega);have vb:IntKind.i64.wrap ((d.t.rows:Int)-1)=(d.t.rows:Int)-1:=bD _ (by omega);have vc:IntKind.i64.wrap (d.t.top+r)=d.t.top+r:=bD _ (by omega);have HT:Hid _:=ht;clear ht;go_enter func139,ntmps139;go_wp2_with (first|(go_at_call 127;refine(dh _ _ _ _).mono ?_;rintro e w1 ⟨rfl,hw1⟩;have hw2:=hw1.symm;subst hw2)|(refine aS rfl 3 dL (.tmp 17) (.tmp 13) rfl rfl {d with t:={d.t with col:=DT.wi c 0 ((d.t.ah:Int)-1)}} 5 _ rfl rfl rfl rfl HT.o htl (by decide) rfl rfl rfl ?_));intro u1 t1 k1;have c15:u1.cell? ⟨tb,15,none⟩=some (.bool d.t.origin):=t1.yf;have HT1:Hid _:=t1;have kR:Hid _:=k1;have c0:u1.cell? ⟨tb,0,none⟩=some (.int .i64 (d.t.rows:Int)):=t1.qH;clear t1 k1 c1 HT;by_cases ho:d.t.origin=true
 ·rw[ho]at c15;have HO:Hid _:=ho;clear ho;go_wp2_with fail;have HT0:bR ({u1 with drawn:=u1.drawn+1}:World) tb v0 v1 fed done {d with t:={d.t with col:=DT.wi c 0 ((d.t.ah:Int)-1)}}:=HT1.o.sm ((Ch.refl _ _).drewN 1);have qC:∀u (e:DT),e.t.top=d.t.top→e.t.bottom=d.t.bottom→bR u tb v0 v1 fed done e→u.cell? ⟨tb,16,none⟩=some (.int .i64 d.t.top)∧u.cell? ⟨tb,17,none⟩=some (.int .i64 d.t.bottom):=fun u e e1 e2 hu=>⟨by rw[←e1];exact hu.rY,by rw[←e2];exact hu.qG⟩;have HH:=qC _ ({d with t:={d.t with col:=DT.wi c 0 ((d.t.ah:Int)-1)}}:DT) rfl rfl HT0;refine dX (S:=fun x=>x.cell? ⟨tb,16,none⟩=some (.int .i64 d.t.top)∧x.cell? ⟨tb,17,none⟩=some (.int .i64 d.t.bottom)) aX ?_;refine ay 0 1 2 3 HH ?_;simp only[ag,af];refine dH 4 5 6 HH ?_;refine aj 7 HH ?_ (v:=.int .i64 (d.t.top+r));simp only[ag,af];refine ay 8 9 10 11 HH ?_;simp only[ag,af];refine ay 12 13 14 15 HH ?_;simp only[ag,af];refine dW 16 17 HH ?_;simp only[ag,af];refine av 18 ?_;refine dN (vs:=[.int .i64 (d.t.top+r),.int .i64 d.t.top,.int .i64 d.t.bottom]) (dh _ _ _ _) ?_;rintro v2 w9 ⟨rfl,rfl⟩;refine⟨HH,?_⟩;simp only[ag,af];refine ay 19 20 21 22 HH ?_;simp only[ag,af];refine av 23 ?_;refine sN 3 dL (.tmp 46) (.tmp 42) rfl rfl (d':={d with t:={d.t with col:=DT.wi c 0 ((d.t.ah:Int)-1),row:=DT.wi (d.t.top+r) d.t.top d.t.bottom}}) 4 (.int .i64 (DT.wi (d.t.top+r) d.t.top d.t.bottom)) rfl rfl rfl rfl HT0 htl (by decide) rfl HT0.h0 HT0.h1 ?_;intro u2 t2 k2;refine⟨qC _ ({d with t:={d.t with col:=DT.wi c 0 ((d.t.ah:Int)-1),row:=DT.wi (d.t.top+r) d.t.top d.t.bottom}}:DT) rfl rfl t2,?_⟩;refine aC ?_;have HT2:Hid _:=t2;have mD:Hid (Ch (· =tb) w u2):=(kR.o.drewN 1).trans k2;clear t2 k2 HH qC HT0;go_wp2_with (refine aS rfl 4 dZ (.tmp 63) _ rfl rfl {{d with t:={d.t with col:=DT.wi c 0 ((d.t.ah:Int)-1),row:=DT.wi (d.t.top+r) d.t.top d.t.bottom}} with t:={({d with t:={d.t with col:=DT.wi c 0 ((d.t.ah:Int)-1),row:=DT.wi (d.t.top+r) d.t.top d.t.bottom}}:DT).t with waits:=false}} 6 (.bool false) rfl rfl rfl rfl HT2.o htl (by decide) rfl rfl rfl ?_);intro u3 t3 k3;go_wp2_with fail;go_end0;refine⟨rfl,?_,mD.o.trans k3⟩;rw[ac7 HO.o];exact t3
 ·have hof:d.t.origin=false:=by simpa using ho
  rw[hof]at c15;have HOF:Hid _:=hof;clear hof ho;go_wp2_with (first|(go_at_call 127;refine(dh _ _ _ _).mono ?_;rintro e w1 ⟨rfl,hw1⟩;have hw2:=hw1.symm;subst hw2)|(refine aS rfl 3 dL (.tmp 58) (.tmp 54) rfl rfl {d with t:={d.t with col:=DT.wi c 0 ((d.t.ah:Int)-1),row:=DT.wi r 0 ((d.t.rows:Int)-1)}} 4 _ rfl rfl rfl rfl HT1.o htl (by decide) rfl rfl rfl ?_));intro u2 t2 k2;have HT2:Hid _:=t2;have mD:Hid (Ch (· =tb) w u2):=kR.o.trans k2;clear t2 k2;go_wp2_with (refine aS rfl 4 dZ (.tmp 63) _ rfl rfl {{d with t:={d.t with col:=DT.wi c 0 ((d.t.ah:Int)-1),row:=DT.wi r 0 ((d.t.rows:Int)-1)}} with t:={({d with t:={d.t with col:=DT.wi c 0 ((d.t.ah:Int)-1),row:=DT.wi r 0 ((d.t.rows:Int)-1)}}:DT).t with waits:=false}} 6 (.bool false) rfl rfl rfl rfl HT2.o htl (by decide) rfl rfl rfl ?_);intro u3 t3 k3;go_wp2_with fail;go_end0;refine⟨rfl,?_,mD.o.trans k3⟩;rw[acP HOF.o];exact t3
theorem Gy(tb:Nat)(v0 v1:Value)(fed:ByteArray)(done:Nat)(d:DT)(top bottom:Int)(w:World)(ht:bR w tb v0 v1 fed done d)(hok:d.Ok)(h1:1≤top∧top≤100000)(h2:0≤bottom∧bottom≤100000):Calls prog 137 #[.pointer (some ⟨tb,0,none⟩),.int .i64 top,.int .i64 bottom] w fun e w'=>e= .returned (.tuple #[])∧bR w' tb v0 v1 fed done (d.region top bottom)∧Ch (· =tb) w w':=by
 have htl:=hok.tl;have c0:=ht.qH;have hc2:d.t.ah≤40:=hok.inv.c2;have hr2:d.t.rows≤12:=hok.inv.r2;have hr1:1≤d.t.rows:=hok.inv.r1;have HT:Hid _:=ht;have va:IntKind.i64.wrap (top-1)=top-1:=bD _ (by omega);obtain⟨B,hB⟩:∃B:Int,B=if bottom≤0∨(d.t.rows:Int)<bottom then(d.t.rows:Int)else bottom:=⟨_,rfl⟩;have hBr:B≤(d.t.rows:Int):=by rw[hB];split<;>omega
 have hB1:1≤B:=by rw[hB];split<;>omega
 have vb:IntKind.i64.wrap (B-1)=B-1:=bD _ (by omega);have hRe:d.region top bottom=if top<B then(DT.to {d with t:={d.t with top:=top-1,bottom:=B-1}} 0 0)else d:=by unfold DT.region;simp only[←hB];rfl
 rw[hRe];have HB:Hid _:=hB;clear ht hok hRe hB;have REST:∀(hlt:top<B) (u:World) (k:bR u tb v0 v1 fed done {d with t:={d.t with top:=top-1,bottom:=B-1}}),Calls prog 139 #[.pointer (some ⟨tb,0,none⟩),.int .i64 0,.int .i64 0] u fun e w'=>e= .returned (.tuple #[])∧bR w' tb v0 v1 fed done (DT.to {d with t:={d.t with top:=top-1,bottom:=B-1}} 0 0)∧Ch (· =tb) u w':=fun hlt u k=>EM tb v0 v1 fed done {d with t:={d.t with top:=top-1,bottom:=B-1}} 0 0 u k htl hc2 hr2 (by show 0≤top-1;omega) (by show top-1≤B-1;omega) (by show B-1<(d.t.rows:Int);omega) (by omega);go_enter func137,ntmps137;go_upto_region 0 with fail;go_cut [15] (fun s15 wc=>s15= .bool (decide (bottom≤0∨(d.t.rows:Int)<bottom))∧wc=w)
 case first=>
  by_cases q1:bottom≤0
  ·have e1:decide (bottom≤0∨(d.t.rows:Int)<bottom)=true:=by simp[q1]
   have HE:Hid _:=e1;clear e1;go_wp2_with fail;go_meet;exact⟨by rw[HE.o],rfl⟩
  ·have d1:decide (bottom≤0)=false:=by simp;omega
   by_cases q2:(d.t.rows:Int)<bottom
   ·have e1:decide (bottom≤0∨(d.t.rows:Int)<bottom)=true:=by simp[q2]
    have HE:Hid _:=e1;clear e1;go_wp2_with fail;go_meet;exact⟨by rw[HE.o],rfl⟩
   ·have e1:decide (bottom≤0∨(d.t.rows:Int)<bottom)=false:=jh (by omega);have d2:decide ((d.t.rows:Int)<bottom)=false:=by simp;omega
    have HE:Hid _:=e1;clear e1;go_wp2_with fail;go_meet;exact⟨by rw[HE.o],rfl⟩
 case rest=>
  obtain⟨rfl,rfl⟩:=hcut;go_upto_if 15 with fail;go_cut [2] (fun s2 wd=>s2= .int .i64 B∧wd=wc)
  case first=>
   by_cases q1:bottom≤0∨(d.t.rows:Int)<bottom
   ·have hb:=HB.o;rw[ak q1]at hb;rw[iP q1];have Ws:Hid _:=hb;clear hb;go_wp2_with fail;go_meet;exact⟨by rw[Ws.o],rfl⟩
   ·have hb:=HB.o;rw[ai q1]at hb;rw[jh q1];have Ws:Hid _:=hb;clear hb;go_wp2_with fail;go_meet;exact⟨by rw[Ws.o],rfl⟩
  case rest=>
   obtain⟨rfl,rfl⟩:=hcut;by_cases hlt:top<B
   ·have RR:=REST hlt;clear REST;go_wp2_with (refine aS rfl 3 dL (.tmp 28) (.tmp 25) rfl rfl {d with t:={d.t with top:=top-1}} 16 _ rfl rfl rfl rfl HT.o htl (by decide) rfl rfl rfl ?_);intro u1 t1 k1;have HT1:Hid _:=t1;go_wp2_with (refine aS rfl 3 dL (.tmp 34) (.tmp 31) rfl rfl {d with t:={d.t with top:=top-1,bottom:=B-1}} 17 _ rfl rfl rfl rfl HT1.o htl (by decide) rfl rfl rfl ?_);intro u2 t2 k2;go_wp2_with fail;refine(RR u2 t2).mono ?_;rintro e u3 ⟨rfl,t3,k3⟩;go_wp2_with fail;go_end0;exact⟨rfl,by first|exact t3|(rw[ak (by omega)];exact t3),(k1.trans k2).trans k3⟩
   ·have dl:decide (top<B)=false:=by simp;omega
    clear REST;go_wp2_with fail;go_end0;exact⟨rfl,by first|exact HT.o|(rw[ai (by omega)];exact HT.o),Ch.refl _ _⟩
theorem yl(tb:Nat)(v0 v1:Value)(fed:ByteArray)(done:Nat)(d:DT)(n:Int)(on:Bool)(w:World)(ht:bR w tb v0 v1 fed done d)(hok:d.Ok):Calls prog 65 #[.pointer (some ⟨tb,0,none⟩),.int .i64 n,.bool on] w fun e w'=>e= .returned (.tuple #[])∧bR w' tb v0 v1 fed done (d.jr n on)∧Ch (· =tb) w w':=by
 have htl:=hok.tl;have hc2:d.t.ah≤40:=hok.inv.c2;have hr2:d.t.rows≤12:=hok.inv.r2;have ht0:0≤d.t.top:=hok.inv.iO;have htb:d.t.top≤d.t.bottom:=hok.inv.tb;have hb2:d.t.bottom<(d.t.rows:Int):=hok.inv.bot;have HT:Hid _:=ht;clear ht hok;by_cases h6:n=6
 ·subst h6;rw[show d.jr 6 on=DT.to {d with t:={d.t with origin:=on}} 0 0 from rfl];have RR:∀(u:World) (k:bR u tb v0 v1 fed done {d with t:={d.t with origin:=on}}),Calls prog 139 #[.pointer (some ⟨tb,0,none⟩),.int .i64 0,.int .i64 0] u fun e w'=>e= .returned (.tuple #[])∧bR w' tb v0 v1 fed done (DT.to {d with t:={d.t with origin:=on}} 0 0)∧Ch (· =tb) u w':=fun u k=>EM tb v0 v1 fed done {d with t:={d.t with origin:=on}} 0 0 u k htl hc2 hr2 ht0 htb hb2 (by omega);go_enter func65,ntmps65;go_wp2_with (refine aS rfl 4 dZ (.tmp 14) (.tmp 10) rfl rfl {d with t:={d.t with origin:=on}} 15 _ rfl rfl rfl rfl HT.o htl (by decide) rfl rfl rfl ?_);intro u1 t1 k1;go_wp2_with fail;refine(RR u1 t1).mono ?_;rintro e u3 ⟨rfl,t3,k3⟩;go_wp2_with fail;go_end0;exact⟨rfl,t3,k1.trans k3⟩
 ·have b6:(n==6)=false:=by simp[h6]
  by_cases h7:n=7
  ·subst h7;have hX:d.jr 7 on= {d with t:={d.t with wrap:=on,waits:=if on then d.t.waits else false}}:=rfl;rw[hX];clear hX b6 h6;cases on
   ·go_enter func65,ntmps65;go_wp2_with (refine aS rfl 4 dZ (.tmp 23) (.tmp 20) rfl rfl {d with t:={d.t with wrap:=false}} 18 _ rfl rfl rfl rfl HT.o htl (by decide) rfl rfl rfl ?_);intro u1 t1 k1;have HT1:Hid _:=t1;go_wp2_with (refine aS rfl 4 dZ (.tmp 30) _ rfl rfl {d with t:={d.t with wrap:=false,waits:=false}} 6 (.bool false) rfl rfl rfl rfl HT1.o htl (by decide) rfl rfl rfl ?_);intro u2 t2 k2;go_wp2_with fail;go_end0;exact⟨rfl,t2,k1.trans k2⟩
   ·go_enter func65,ntmps65;go_wp2_with (refine aS rfl 4 dZ (.tmp 23) (.tmp 20) rfl rfl {d with t:={d.t with wrap:=true}} 18 _ rfl rfl rfl rfl HT.o htl (by decide) rfl rfl rfl ?_);intro u1 t1 k1;go_wp2_with fail;go_end0;exact⟨rfl,t1,k1⟩
  ·have b7:(n==7)=false:=by simp[h7]
   by_cases h47:n=47
   ·subst h47;have hX:d.jr 47 on= {d with t:={d.t with shown:=if on then 1 else 0}}:=rfl;rw[hX];clear hX b6 h6 b7 h7;cases on
    ·go_enter func65,ntmps65;go_wp2_with (refine aS rfl 3 dL (.tmp 36) _ rfl rfl {d with t:={d.t with shown:=0}} 20 (.int .i64 0) rfl rfl rfl rfl HT.o htl (by decide) rfl rfl rfl ?_);intro u1 t1 k1;go_wp2_with fail;go_end0;exact⟨rfl,t1,k1⟩
    ·go_enter func65,ntmps65;go_wp2_with (refine aS rfl 3 dL (.tmp 36) _ rfl rfl {d with t:={d.t with shown:=0}} 20 (.int .i64 0) rfl rfl rfl rfl HT.o htl (by decide) rfl rfl rfl ?_);intro u1 t1 k1;have HT1:Hid _:=t1;go_wp2_with (refine aS rfl 3 dL (.tmp 41) _ rfl rfl {d with t:={d.t with shown:=1}} 20 (.int .i64 1) rfl rfl rfl rfl HT1.o htl (by decide) rfl rfl rfl ?_);intro u2 t2 k2;go_wp2_with fail;go_end0;exact⟨rfl,t2,k1.trans k2⟩
   ·have b47:(n==47)=false:=by simp[h47]
    have hX:d.jr n on=d:=by unfold DT.jr;rw[ai h6,ai h7,ai h47]
    rw[hX];clear hX;go_enter func65,ntmps65;go_wp2_with fail;go_end0;exact⟨rfl,HT.o,Ch.refl _ _⟩
theorem Du(tb:Nat)(v0 v1:Value)(fed:ByteArray)(done:Nat)(d:DT)(n:Int)(w:World)(ht:bR w tb v0 v1 fed done d)(hok:d.Ok)(hn: -100000≤n∧n≤100000):Calls prog 134 #[.pointer (some ⟨tb,0,none⟩),.int .i64 n] w fun e w'=>e= .returned (.tuple #[])∧∃v0' v1',bR w' tb v0' v1' fed done (d.rows n)∧Ch (· =tb) w w':=by
 have htl:=hok.tl;have c4:=ht.Dq;have c16:=ht.rY;have c17:=ht.qG;have hr0:0≤d.t.row:=hok.inv.row0;have HT:Hid _:=ht;have iV:Hid _:=hok;have tlS:(d.fI d.t.row n).tb.length=40:=by unfold DT.fI;rw[(d.sD _).2.1];exact htl
 clear ht hok;by_cases hin:d.t.top≤d.t.row∧d.t.row≤d.t.bottom
 ·have h1:=hin.1;have h2:=hin.2;obtain⟨D,hD⟩:∃D,D=d.fI d.t.row n:=⟨_,rfl⟩;have hX:d.rows n= {D with t:={D.t with col:=0,waits:=false}}:=by unfold DT.rows;rw[ak hin,hD];rfl
  rw[hX];rw[←hD]at tlS;have HD:Hid _:=hD;clear hX hin hD;go_enter func134,ntmps134;go_wp2_with fail;go_quiet (fail);go_wp2_with fail;refine(pq tb v0 v1 fed done d d.t.row n _ (HT.o.drewN _) iV.o hr0 hn).mono ?_;rintro e w2 ⟨rfl,v0',v1',t2,k2⟩;rw[←HD.o]at t2;have HT2:Hid _:=t2;go_wp2_with (refine aS rfl 3 dL (.tmp 43) _ rfl rfl {D with t:={D.t with col:=0}} 5 (.int .i64 0) rfl rfl rfl rfl HT2.o tlS (by decide) rfl rfl rfl ?_);intro u3 t3 k3;have HT3:Hid _:=t3;go_wp2_with (refine aS rfl 4 dZ (.tmp 48) _ rfl rfl {D with t:={D.t with col:=0,waits:=false}} 6 (.bool false) rfl rfl rfl rfl HT3.o tlS (by decide) rfl rfl rfl ?_);intro u4 t4 k4;go_wp2_with fail;go_end0;exact⟨rfl,v0',v1',t4,((((Ch.refl _ _).drewN _).trans k2).trans k3).trans k4⟩
 ·have hX:d.rows n= {d with t:={d.t with waits:=false}}:=by unfold DT.rows;rw[ai hin];rfl
  rw[hX];clear hX;by_cases h1:d.t.top≤d.t.row
  ·have h2:decide (d.t.row≤d.t.bottom)=false:=by simp;omega
   have h2':¬d.t.row≤d.t.bottom:=by omega
   clear hin;go_enter func134,ntmps134;go_wp2_with fail;go_quiet (fail);go_wp2_with (refine aS rfl 4 dZ (.tmp 48) _ rfl rfl {d with t:={d.t with waits:=false}} 6 (.bool false) rfl rfl rfl rfl (HT.o.drewN _) htl (by decide) rfl rfl rfl ?_);intro u4 t4 k4;go_wp2_with fail;go_end0;exact⟨rfl,v0,v1,t4,((Ch.refl _ _).drewN _).trans k4⟩
  ·have h1':decide (d.t.top≤d.t.row)=false:=by simp;omega
   clear hin;go_enter func134,ntmps134;go_wp2_with fail;go_quiet (fail);go_wp2_with (refine aS rfl 4 dZ (.tmp 48) _ rfl rfl {d with t:={d.t with waits:=false}} 6 (.bool false) rfl rfl rfl rfl (HT.o.drewN _) htl (by decide) rfl rfl rfl ?_);intro u4 t4 k4;go_wp2_with fail;go_end0;exact⟨rfl,v0,v1,t4,((Ch.refl _ _).drewN _).trans k4⟩
end Go.Proofs.YtheibfffilomcaaGreatDoor
