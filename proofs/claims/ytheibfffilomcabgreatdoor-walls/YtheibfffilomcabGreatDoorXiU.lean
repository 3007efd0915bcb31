import Derived.Test.YtheibfffilomcabGreatDoorEvnU
import Derived.Test.YtheibfffilomcabGreatDoorZdU
import Derived.Test.YtheibfffilomcabGreatDoorQaU
import Derived.Test.YtheibfffilomcabGreatDoorWdU
set_option linter.all false
set_option maxRecDepth 100000
set_option maxHeartbeats 2000000
namespace Go.Proofs.YtheibfffilomcabGreatDoor
open Go.RowKit Go.Proofs.Tryz
variable {w w':World} {a:Act}
theorem abV(p q:fO)(w:World):(binOp .eql 102 (.agg (gI p)) (.agg (gI q))).run prog w= .ok (.bool (decide (p=q))) w:=by rw[run_eql_struct,eqP 9998];rfl
theorem UK(op:BinOp)(x y:Operand)(xs ys:Array Value)(w:World):(eqGuard op 102 x y (.agg xs) (.agg ys)).run prog w= .ok () w:=run_eqGuard_agg w op 102 x y xs ys (by kernel_rfl)
theorem Pn{o:Oper}(x y:Operand)(ho:o.op= .binOp .eql 102 x y 102)(c d:fO)(hx:a.eval x= .agg (gI c))(hy:a.eval y= .agg (gI d))(w:World):(execOp a.eval o).run prog w= .ok (.value (.bool (decide (c=d)))) w:=by unfold execOp;simp only[ho,hx,hy,kN,UK,abV,kM,qg]
theorem jO{g:Nat}{cs:List Value}{t:TypeId}(h:w.heap[g]? =some (.cells cs.toArray t (0,0)))(j:Nat)(vs:List Value)(hv:(cs.drop j).take vs.length=vs):w.rangeAt g j vs:=fun i v hi=>by
 rw[dJ _ _ _ _ _ _ h];rw[←hv,qA]at hi;split at hi
 ·rw[qC]at hi;simpa using hi
 ·cases hi
theorem VV(w:World)(wb tb:Nat)(p v:Value)(q r:fO)(h:w.heap[wb]? =some (.cells (DI tb p v q).toArray 112 (0,0))):
 (w.setCells wb 3 (iR r)).heap[wb]? =some (.cells (DI tb p v r).toArray 112 (0,0))∧Ch (· =wb) w (w.setCells wb 3 (iR r)):=by
 have hz:=size_setCells wb (iR r) 3 w;refine⟨?_,⟨hz.2.1,hz.2.2.1,hz.2.2.2,by omega,fun i _ hn=>fV wb _ _ _ i hn⟩⟩;rw[pG h (by show 3+5≤8;omega)];rfl
theorem Gn{ops:Array Oper}{rest:List Oper}{o:Oper}{u:World}{Q:Exit→Act→World→Prop}(hgd:o.guard=none)(x y:Operand)(ho:o.op= .store 102 x y)(hd:o.dst=none)(wb tb:Nat)(p v:Value)(q r:fO)(hx:a.eval x= .pointer (some ⟨wb,3,none⟩))(hy:a.eval y= .agg (gI r))(h:u.heap[wb]? =some (.cells (DI tb p v q).toArray 112 (0,0)))(hK:∀u',u'.heap[wb]? =some (.cells (DI tb p v r).toArray 112 (0,0))→Ch (· =wb) u u'→wpList prog ops Q rest a u'):wpList prog ops Q (o::rest) a u:=by
 obtain⟨g1,k1⟩:=VV u wb tb p v q r h;refine sI hgd fun K hK2=>?_
 refine wp_store_mid 102 x y ho wb 3 (gI r) hx hy (by simpa[gI,iR]using A9 h (n:=5) (o:=3) (by show 3+5≤8;omega)) (by simpa[gI,iR]using iP) (all_oneCell_toArray (by
  intro z hz;simp only[iR,di,eU,eX]at hz
  rcases hz with rfl|rfl|rfl|rfl|rfl<;>rfl)) ?_
 rw[hd];exact hK2 _ _ (hK _ (by simpa[gI]using g1) (by simpa[gI]using k1))
theorem vo(wb tb:Nat)(x:WS)(p:fO)(hp:p.Ok)(w:World)(h:eB w wb tb x)(hx:x.tx.length≤700000000):
 Calls prog 147 #[.pointer (some ⟨wb,0,none⟩),.agg (gI p)] w fun e w'=>e= .returned (.tuple #[])∧eB w' wb tb (x.turn p)∧Wk wb w w':=by
 obtain⟨pa,v,h1,h2,h3⟩:=h.ex;have hlt:=bM h1;have Qz:Hid (wb<w.heap.size):=hlt;obtain⟨W,hW⟩:∃W,W=w.alloc (.cells (gI p) 102):=⟨_,rfl⟩;have GW:W.heap[w.heap.size]? =some (.cells (iR p).toArray 102 (0,0)):=by rw[hW];exact bJ _ _
 have GB:W.heap[wb]? =some (.cells (DI tb pa v x.pen).toArray 112 (0,0)):=by rw[hW];exact(h_ _ _ _ hlt).trans h1
 have BW:Below w.heap.size w W:=by rw[hW];exact(dF _ _).alloc (bE _) _
 have H8:Hid (∀i∈x.tx,0≤i∧i<256):=h.TE;have HBS:Hid (iL W (wb+1) v x.tx):=h3.keep (fun k _ hk=>BW.block k hk);have HP:Hid _:=h2;have HGB:Hid _:=GB;have Wt:Hid _:=GW;have Qk:Hid _:=BW;have HW:Hid _:=hW;have hsW:W.heap.size=w.heap.size+1:=by rw[hW];simp
 clear h h1 h2 h3 hW;have HH:World.rangeAt ({W with drawn:=W.drawn+1}:World) w.heap.size 0 (iR p)∧World.rangeAt ({W with drawn:=W.drawn+1}:World) wb 3 (iR x.pen):=⟨jO (w:=({W with drawn:=W.drawn+1}:World)) GW 0 _ rfl,jO (w:=({W with drawn:=W.drawn+1}:World)) GB 3 _ rfl⟩;clear GW GB BW;go_enter func147,ntmps147;go_wp2_with fail;rw[←HW.o];refine fJ (S:=fun y=>y.rangeAt w.heap.size 0 (iR p)∧y.rangeAt wb 3 (iR x.pen)) bI ?_;refine ak 0 HH ?_ (v:=.agg (gI p)) (hy:=(ug (by rfl) 102 (.tmp 3) rfl w.heap.size 0 rfl (iR p) _ (fun y h=>h.1) underlying102 rfl iP));refine iC 1 2 3 HH ?_;simp only[ah,ag];refine ak 4 HH ?_ (v:=.agg (gI x.pen)) (hy:=(ug (by rfl) 102 (.tmp 7) rfl wb 3 rfl (iR x.pen) _ (fun y h=>h.2) underlying102 rfl iP));simp only[ah,ag];refine ak 5 HH ?_ (v:=.bool (decide (p=x.pen))) (hy:=(Or.inl ⟨by rfl,fun y _=>Pn (.tmp 4) (.tmp 8) rfl p x.pen rfl rfl y⟩));simp only[ah,ag];refine aM ?_;clear HH;by_cases he:p=x.pen
 ·have e:x.turn p=x:=by unfold WS.turn;rw[aS he]
  have HE:Hid _:=e;rw[mE he];clear e he;go_wp2_with fail;refine gL (lF rfl _ _ _) rfl ?_;refine⟨rfl,?_,⟨⟨Qk.o.os,Qk.o.tape,Qk.o.output,Qk.o.size,fun k hk=>Qk.o.block k (by omega)⟩,fun k hk _ _=>Qk.o.block k hk⟩⟩;rw[HE.o];exact⟨⟨pa,v,HGB.o,HP.o,HBS.o⟩,H8.o⟩
 ·have e:x.turn p=(⟨x.tx,p⟩:WS).seq (48::(nL p++[109])):=by unfold WS.turn;rw[aG he]
  have HE:Hid _:=e;rw[mF he];clear e he;go_wp2_with (first|(refine jb rfl 102 (.tmp 3) rfl w.heap.size rfl 102 _ (0,0) _ Wt.o underlying102 rfl iP ?_)|(refine Gn rfl (.tmp 13) (.tmp 11) rfl rfl wb tb pa v x.pen p rfl rfl HGB.o ?_));intro u4 g4 k4;have k4s:W.heap.size≤u4.heap.size:=k4.size;have g5:u4.heap[w.heap.size]? =some (.cells (iR p).toArray 102 (0,0)):=(k4.block _ (bM Wt.o) (by omega)).trans Wt.o;have W4:eB u4 wb tb ⟨x.tx,p⟩:=⟨⟨pa,v,g4,HP.o,HBS.o.keep (fun k hk hk2=>k4.block k hk2 (by omega))⟩,H8.o⟩;have B4:Wk wb w u4:=(Wk.of_below Qk.o (iH hlt)).trans ⟨⟨k4.os,k4.tape,k4.output,k4.size,fun k hk=>k4.block k (by show k<W.heap.size;omega) (by omega)⟩,fun k hk hn _=>k4.block k hk hn⟩;have HW4:Hid _:=W4;have HB4:Hid _:=B4;clear W4 B4 g4 k4;go_wp2_with (refine jb rfl 102 (.tmp 3) rfl w.heap.size rfl 102 _ (0,0) _ g5 underlying102 rfl iP ?_);refine(Rb p hp u4).mono ?_;rintro e w5 ⟨rfl,b5⟩;have zi:=Le p;have l6:=dM wb tb ⟨x.tx,p⟩ (({data:=#[48]}:ByteArray)++EE p++{data:=#[109]}) w5 (HW4.o.keep b5) (by show x.tx.length≤_;omega) (by rw[yg,yg];show 1+(EE p).size+1≤_;omega);have e6:bl (({data:=#[48]}:ByteArray)++EE p++{data:=#[109]})=48::(nL p++[109]):=by rw[iy,iy,J9 hp,show bl ({data:=#[48]}:ByteArray)=[48] by kernel_rfl,show bl ({data:=#[109]}:ByteArray)=[109] by kernel_rfl];simp
  rw[e6]at l6;have HB5:Hid (Wk wb w w5):=HB4.o.trans (Wk.of_below b5 (by omega));clear e6 b5 g5;generalize EE p=D at*;go_wp2_with fail;refine l6.mono ?_;rintro e w7 ⟨rfl,h7,b7⟩;go_wp2_with fail;go_end0;refine⟨rfl,?_,HB5.o.trans b7⟩;rw[HE.o];exact h7
theorem ng(x:WS)(p:fO):(x.turn p).tx.length≤x.tx.length+20:=by
 unfold WS.turn;split
 ·omega
 ·have:=Bh p;show(x.tx++([27,91]++(48::(nL p++[109])))).length≤_;simp only[lQ,fB,dH];omega
theorem uz(x:WS)(c:aC):(x.cell c).tx.length≤x.tx.length+24:=by
 unfold WS.cell;split
 ·omega
 ·have:=ng x c.p;have:=Gc c.r;show((x.turn c.p).tx++rH c.r).length≤_;rw[lQ];omega
theorem iZ(x:WS)(r c:Int):(x.place r c).tx.length≤x.tx.length+8:=by have h1:=kS (r+1);have h2:=kS (c+1);show(x.tx++([27,91]++((lg (r+1)++(59::lg (c+1)))++[72]))).length≤_;simp only[lQ,fB,dH];omega
theorem L9(r:Int)(h:Ce r):IntKind.i32.wrap r=r:=IntWalk.i32_in _ (by obtain⟨h0,h1,_⟩:=h;omega)
theorem xX(wb tb:Nat)(x:WS)(c:aC)(hc:c.part=2∨c.Ok)(w:World)(h:eB w wb tb x)(hx:x.tx.length≤600000000):
 Calls prog 193 #[.pointer (some ⟨wb,0,none⟩),.agg (bO c)] w fun e w'=>e= .returned (.tuple #[])∧eB w' wb tb (x.cell c)∧Wk wb w w':=by
 have hlt:=h.lt;have Qz:Hid (wb<w.heap.size):=hlt;obtain⟨W,hW⟩:∃W,W=w.alloc (.cells (bO c) 104):=⟨_,rfl⟩;have GW:W.heap[w.heap.size]? =some (.cells (cellV c).toArray 104 (0,0)):=by rw[hW];exact bJ _ _
 have BW:Below w.heap.size w W:=by rw[hW];exact(dF _ _).alloc (bE _) _
 have c6:(w.alloc (.cells (bO c) 104)).cell? ⟨w.heap.size,6,none⟩=some (.int .i64 c.part):=(dJ _ _ _ _ _ _ (bJ w _)).trans rfl;have HWR:Hid (eB W wb tb x):=h.keep BW;have Wt:Hid _:=GW;have Qk:Hid _:=BW;have HW:Hid _:=hW;have hsW:W.heap.size=w.heap.size+1:=by rw[hW];simp
 have HR:Hid (W.rangeAt w.heap.size 1 (iR c.p)):=jO GW 1 _ rfl;clear h hW GW BW;by_cases hp:c.part=2
 ·have e:x.cell c=x:=by unfold WS.cell;rw[aS hp]
  have HE:Hid _:=e;have hp':(c.part==2)=true:=by simpa using hp
  clear e hp;go_enter func193,ntmps193;go_wp2_with fail;rw[←HW.o];refine gL (lF rfl _ _ _) rfl ?_;refine⟨rfl,?_,Wk.of_below Qk.o (iH Qz.o)⟩;rw[HE.o];exact HWR.o
 ·have e:x.cell c=(x.turn c.p).put (rH c.r):=by unfold WS.cell;rw[aG hp]
  have HE:Hid _:=e;have hp':(c.part==2)=false:=by simpa using hp
  have hok:c.Ok:=hc.resolve_left hp;clear e hp hc;have l1:=vo wb tb x c.p hok.2 W HWR.o (by omega);have vr:=L9 c.r hok.1;go_enter func193,ntmps193;rw[HW.o]at l1 HR;go_wp2_with (refine qD rfl 102 (.tmp 8) rfl w.heap.size 1 rfl (iR c.p) _ HR.o underlying102 rfl iP ?_);refine l1.mono ?_;rintro e w2 ⟨rfl,h2,b2⟩;rw[←HW.o]at b2;have g2:w2.heap[w.heap.size]? =some (.cells (cellV c).toArray 104 (0,0)):=b2.at Wt.o (by omega) (by decide);have HG2:Hid _:=g2;have c0:w2.cell? ⟨w.heap.size,0,none⟩=some (.int .i64 c.r):=(dJ _ _ _ _ _ _ g2).trans rfl;have HWK:Hid (Wk wb w w2):=(Wk.of_below Qk.o (iH hlt)).trans b2;have htl:=ng x c.p;have HH:World.cell? ({w2 with drawn:=w2.drawn+1}:World) ⟨w.heap.size,0,none⟩=some (.int .i64 c.r):=c0;have l3:=Ap wb tb (x.turn c.p) c.r hok.1 ({w2 with drawn:=w2.drawn+1}:World) ⟨h2.ex,h2.TE⟩ (by omega);clear g2 b2 h2;go_wp2_with fail;refine fJ (S:=fun y=>y.cell? ⟨w.heap.size,0,none⟩=some (.int .i64 c.r)) bI ?_;refine aL 0 1 2 3 HH ?_;simp only[ah,ag];refine ak 4 HH ?_;refine ak 5 HH ?_ (v:=.int .i32 c.r);simp only[ah,ag];refine aD 6 ?_
  refine vC (f:=229) 17 [.tmp 13,.tmp 16] #[110,21] rfl rfl [.pointer (some ⟨wb,1,none⟩),.int .i32 c.r] rfl (by kernel_rfl) (fun v w'=>eB w' wb tb ((x.turn c.p).put (rH c.r))∧Wk wb ({w2 with drawn:=w2.drawn+1}:World) w') (l3.mono fun e w' h=>by
   obtain⟨⟨v,hv⟩,h1,h2⟩:=h
   exact⟨v,hv,h1,h2⟩) ?_
  rintro v4 w4 ⟨h4,k4⟩;have g4:w4.heap[w.heap.size]? =some (.cells (cellV c).toArray 104 (0,0)):=k4.at HG2.o (by omega) (by decide);refine⟨(dJ _ _ _ _ _ _ g4).trans rfl,?_⟩;refine aM ?_;have HF:Hid (eB w4 wb tb ((x.turn c.p).put (rH c.r))∧Wk wb w w4):=⟨h4,HWK.o.trans ⟨⟨k4.b.os,k4.b.tape,k4.b.output,k4.b.size,k4.b.block⟩,k4.n⟩⟩;clear h4 k4 g4 l3 HH;go_wp2_with fail;go_end0;exact⟨rfl,by rw[HE.o];exact HF.o.1,HF.o.2⟩
def nA (a:Int):Nat:=1+(jF a 12).toNat
def ny (a:Int):Nat:=1+(jF a 40).toNat
theorem uL(c n:Int)(hn:1≤n):0≤jF c n∧jF c n<n:=by
 unfold jF;split
 ·exact⟨Int.emod_nonneg _ (by omega),Int.emod_lt_of_pos _ (by omega)⟩
 ·exact⟨Int.emod_nonneg _ (by omega),Int.emod_lt_of_pos _ (by omega)⟩
theorem mY(a:Int):1≤nA a∧nA a≤12:=by have:=uL a 12 (by omega);unfold nA;omega
theorem mX(a:Int):1≤ny a∧ny a≤40:=by have:=uL a 40 (by omega);unfold ny;omega
theorem wE(a b:Int)(w:World)(ha: -9223372036854775808≤a∧a≤9223372036854775807):Calls prog 6 #[.agg #[.int .i64 a,.int .i64 b]] w fun e w'=>e= .returned (.int .i64 (nA a:Int))∧Below w.heap.size w w':=by
 have hb:=uL a 12 (by omega);have l1:∀u,_:=fun u=>EZ a 12 u ha.1 ha.2 (by omega) (by omega);have v1:IntKind.i64.wrap (1+jF a 12)=1+jF a 12:=bV _ (by omega);have HS:Hid ((nA a:Int)=1+jF a 12):=by show _=_;unfold nA;omega
 generalize jF a 12=p at*;go_enter func6,ntmps6;go_wp2_with (go_at_call 18;refine(l1 _).mono ?_;rintro e w1 ⟨rfl,hw1⟩;subst hw1);go_ret;exact⟨by rw[HS.o];rfl,(dF _ _).alloc (bE _) _⟩
theorem vU(a b:Int)(w:World)(ha: -9223372036854775808≤b∧b≤9223372036854775807):Calls prog 7 #[.agg #[.int .i64 a,.int .i64 b]] w fun e w'=>e= .returned (.int .i64 (ny b:Int))∧Below w.heap.size w w':=by
 have hb:=uL b 40 (by omega);have l1:∀u,_:=fun u=>EZ b 40 u ha.1 ha.2 (by omega) (by omega);have v1:IntKind.i64.wrap (1+jF b 40)=1+jF b 40:=bV _ (by omega);have HS:Hid ((ny b:Int)=1+jF b 40):=by show _=_;unfold ny;omega
 generalize jF b 40=p at*;go_enter func7,ntmps7;go_wp2_with (go_at_call 18;refine(l1 _).mono ?_;rintro e w1 ⟨rfl,hw1⟩;subst hw1);go_ret;exact⟨by rw[HS.o];rfl,(dF _ _).alloc (bE _) _⟩
theorem Tx(rows aa:Nat):(agM.fresh rows aa).feed [27,91,49,109]=⟨.zero,.zero,{TS.fresh rows aa with pen:=⟨true,false,false,0,0⟩}⟩:=by kernel_rfl
theorem Ty(rows aa:Nat)(hr:1≤rows)(hc:1≤aa):((agM.fresh rows aa).feed [27,91,49,109,81]).t.cellAt 0 0 0=⟨81,⟨true,false,false,0,0⟩,0⟩:=by
 rw[show[27,91,49,109,81]=[27,91,49,109]++[(81:Int)] from rfl,xm,Tx];have e1:(agM.feed ⟨.zero,.zero,{TS.fresh rows aa with pen:=⟨true,false,false,0,0⟩}⟩ [81]).t=TS.print {TS.fresh rows aa with pen:=⟨true,false,false,0,0⟩} 81 1:=by kernel_rfl
 rw[e1];unfold TS.print;rw[aG (by show¬(1=0∨aa<1);omega)];have e2:TS.dS {TS.fresh rows aa with pen:=⟨true,false,false,0,0⟩}= {TS.fresh rows aa with pen:=⟨true,false,false,0,0⟩}:=rfl;rw[e2,aG (by show¬((aa:Int)<0+1);omega)];have e3:(TS.iG {TS.fresh rows aa with pen:=⟨true,false,false,0,0⟩} 81 1).cellAt 0 0 0=(((List.replicate rows (dK aa)).set 0 (tL ((List.replicate rows (dK aa)).getD 0 []) 0 81 1 ⟨true,false,false,0,0⟩)).getD 0 []).getD 0 aQ:=rfl;rw[e3];obtain⟨r,rfl⟩:∃r,rows=r+1:=⟨rows-1,by omega⟩;obtain⟨c,rfl⟩:∃c,aa=c+1:=⟨aa-1,by omega⟩;have h0:(List.replicate (r+1) (dK (c+1))).getD 0 []=dK (c+1):=rfl;rw[h0,Jo,nE];show(tL (dK (c+1)) 0 81 1 ⟨true,false,false,0,0⟩).getD 0 aQ=_;have hp:tL (dK (c+1)) 0 81 1 ⟨true,false,false,0,0⟩=(ay (ay (dK (c+1)) 0) (0+1)).set 0 ⟨81,⟨true,false,false,0,0⟩,0⟩:=rfl;have hl:0<((ay (ay (dK (c+1)) 0) (0+1)).set 0 (⟨81,⟨true,false,false,0,0⟩,0⟩:aC)).length:=by rw[qB,ax,ax];simp[dK]
 rw[hp];simp[List.getD,ax,dK]
theorem Cy:(prog.info? 23).map (·.size)=some 2:=by kernel_rfl
theorem KN(a b:Int)(w:World)(ha: -9223372036854775808≤a∧a≤9223372036854775807)(hb: -9223372036854775808≤b∧b≤9223372036854775807)(htb:iE w):
 Calls prog 19 #[.agg #[.int .i64 a,.int .i64 b]] w fun e w'=>∃fb L,e= .returned (.tuple #[.pointer (some ⟨fb,0,none⟩),.bool true])∧wU w' fb L (agM.fresh (nA a) (ny b))∧w.heap.size≤fb∧(∀k,L.own k→w.heap.size≤k)∧Below w.heap.size w w':=by
 have hw2:2<w.heap.size:=by obtain⟨t,fr,h⟩:=htb.st;exact bM h
 go_enter func19,ntmps19;go_wp2_with fail;have HG:(w.alloc (Obj.cells #[.int .i64 a,.int .i64 b] 23)).heap[w.heap.size]? =some (.cells #[.int .i64 a,.int .i64 b] 23 (0,0)):=bJ _ _;have BW:Below w.heap.size w (w.alloc (Obj.cells #[.int .i64 a,.int .i64 b] 23)):=(dF _ _).alloc (bE _) _;have htW:=htb.ch ((Ch.refl (fun _=>False) w).alloc (.cells #[.int .i64 a,.int .i64 b] 23)) (fun _ _ h=>h);generalize hWW:w.alloc (Obj.cells #[.int .i64 a,.int .i64 b] 23)=W at*;obtain⟨lb,hlb⟩:∃lb,lb=w.heap.size:=⟨_,rfl⟩;rw[←hlb]at HG ⊢;have hW2:2<W.heap.size:=by have:=BW.size;omega
 have SS:∀u:World,u.heap[lb]? =some (.cells #[.int .i64 a,.int .i64 b] 23 (0,0))→u.rangeAt lb 0 [.int .i64 a,.int .i64 b]:=fun u hu j v hv=>by rw[dJ _ _ _ _ _ _ hu,lG];simpa using hv
 have HH:=SS ({W with drawn:=World.drawn W+1}:World) HG;refine fJ (S:=fun x=>x.rangeAt lb 0 [.int .i64 a,.int .i64 b]) bI ?_;refine ak 0 HH ?_ (v:=.agg #[.int .i64 a,.int .i64 b]) (hy:=(ug (by rfl) 23 (.tmp 1) rfl lb 0 rfl [.int .i64 a,.int .i64 b] _ (fun x h=>h) underlying23 rfl Cy));simp only[ah,ag];refine ak 2 HH ?_ (v:=.agg #[.int .i64 a,.int .i64 b]) (hy:=(ug (by rfl) 23 (.tmp 1) rfl lb 0 rfl [.int .i64 a,.int .i64 b] _ (fun x h=>h) underlying23 rfl Cy));simp only[ah,ag];refine aD 1 ?_;refine bR (vs:=[.agg #[.int .i64 a,.int .i64 b]]) (R:=fun v w'=>v= .int .i64 (nA a:Int)∧Below (World.heap W).size W w') ((wE a b _ ha).mono fun e w' h=>⟨_,h.1,rfl,⟨h.2.os,h.2.tape,h.2.output,h.2.size,h.2.block⟩⟩) ?_;rintro v2 q1 ⟨rfl,bq1⟩;have hq1:=SS q1 ((bq1.block lb (bM HG)).trans HG);refine⟨hq1,?_⟩;simp only[ah,ag];refine aD 3 ?_;refine bR (vs:=[.agg #[.int .i64 a,.int .i64 b]]) (R:=fun v w'=>v= .int .i64 (ny b:Int)∧Below (World.heap W).size W w') ((vU a b _ hb).mono fun e w' h=>⟨_,h.1,rfl,bq1.trans (h.2.mono bq1.size)⟩) ?_;rintro v2 q2 ⟨rfl,TD⟩;have hq2:=SS q2 ((TD.block lb (bM HG)).trans HG);refine⟨hq2,?_⟩;simp only[ah,ag];refine aD 4 ?_;refine bR (vs:=[.int .i64 (nA a:Int),.int .i64 (ny b:Int)]) (R:=fun v w'=>∃fb L,v= .tuple #[.pointer (some ⟨fb,0,none⟩),.int .i64 0]∧wU w' fb L (agM.fresh (nA a) (ny b))∧(World.heap W).size≤fb∧(∀k,L.own k→(World.heap W).size≤k)∧Below (World.heap W).size W w') ((Kb (nA a) (ny b) q2 (mY a) (mX b) (by have:=TD.size;have:=hW2;omega)).mono fun e w' ⟨fb,L,r1,r2,r3,r4,r5⟩=>⟨_,r1,fb,L,rfl,r2,fA TD.size r3,fun k hk=>fA TD.size (r4 k hk),TD.trans (r5.mono TD.size)⟩) ?_;rintro v2 q3 ⟨QZ,L1,rfl,F1,ach,hL1,b1⟩;have hq3:=SS q3 ((b1.block lb (bM HG)).trans HG);refine⟨hq3,?_⟩;simp only[ah,ag];refine ak 5 hq3 ?_;refine ak 6 hq3 ?_ (v:=.pointer (some ⟨QZ,0,none⟩));refine ak 7 hq3 ?_ (v:=.int .i64 0);refine ak 8 hq3 ?_;simp only[ah,ag];refine ak 9 hq3 ?_;simp only[ah,ag];refine aM ?_;have g1:=(b1.block lb (bM HG)).trans HG;clear bq1 TD hq1 hq2 hq3 HH SS;have Dy:Hid _:=F1;have HB1:Hid _:=b1;clear F1 b1;have afn:=hW2;have hW2:2<q3.heap.size:=by have:=HB1.o.size;omega
 go_wp2_with fail;have SS:∀u:World,u.heap[lb]? =some (.cells #[.int .i64 a,.int .i64 b] 23 (0,0))→u.rangeAt lb 0 [.int .i64 a,.int .i64 b]:=fun u hu j v hv=>by rw[dJ _ _ _ _ _ _ hu,lG];simpa using hv
 have HH:=SS ({q3 with drawn:=World.drawn q3+1}:World) g1;refine fJ (S:=fun x=>x.rangeAt lb 0 [.int .i64 a,.int .i64 b]) bI ?_;refine ak 0 HH ?_ (v:=.agg #[.int .i64 a,.int .i64 b]) (hy:=(ug (by rfl) 23 (.tmp 1) rfl lb 0 rfl [.int .i64 a,.int .i64 b] _ (fun x h=>h) underlying23 rfl Cy));simp only[ah,ag];refine ak 2 HH ?_ (v:=.agg #[.int .i64 a,.int .i64 b]) (hy:=(ug (by rfl) 23 (.tmp 1) rfl lb 0 rfl [.int .i64 a,.int .i64 b] _ (fun x h=>h) underlying23 rfl Cy));simp only[ah,ag];refine aD 1 ?_;refine bR (vs:=[.agg #[.int .i64 a,.int .i64 b]]) (R:=fun v w'=>v= .int .i64 (nA a:Int)∧Below (World.heap q3).size q3 w') ((wE a b _ ha).mono fun e w' h=>⟨_,h.1,rfl,⟨h.2.os,h.2.tape,h.2.output,h.2.size,h.2.block⟩⟩) ?_;rintro v2 p1 ⟨rfl,bp1⟩;have hp1:=SS p1 ((bp1.block lb (bM g1)).trans g1);refine⟨hp1,?_⟩;simp only[ah,ag];refine aD 3 ?_;refine bR (vs:=[.agg #[.int .i64 a,.int .i64 b]]) (R:=fun v w'=>v= .int .i64 (ny b:Int)∧Below (World.heap q3).size q3 w') ((vU a b _ hb).mono fun e w' h=>⟨_,h.1,rfl,bp1.trans (h.2.mono bp1.size)⟩) ?_;rintro v2 p2 ⟨rfl,TC⟩;have hp2:=SS p2 ((TC.block lb (bM g1)).trans g1);refine⟨hp2,?_⟩;simp only[ah,ag];refine aD 4 ?_;refine bR (vs:=[.int .i64 (nA a:Int),.int .i64 (ny b:Int)]) (R:=fun v w'=>∃fb L,v= .tuple #[.pointer (some ⟨fb,0,none⟩),.int .i64 0]∧wU w' fb L (agM.fresh (nA a) (ny b))∧(World.heap q3).size≤fb∧(∀k,L.own k→(World.heap q3).size≤k)∧Below (World.heap q3).size q3 w') ((Kb (nA a) (ny b) p2 (mY a) (mX b) (by have:=TC.size;have:=hW2;omega)).mono fun e w' ⟨fb,L,r1,r2,r3,r4,r5⟩=>⟨_,r1,fb,L,rfl,r2,fA TC.size r3,fun k hk=>fA TC.size (r4 k hk),TC.trans (r5.mono TC.size)⟩) ?_;rintro v2 p3 ⟨V6,L2,rfl,F2,afs,hL2,b2⟩;have hp3:=SS p3 ((b2.block lb (bM g1)).trans g1);refine⟨hp3,?_⟩;simp only[ah,ag];refine ak 5 hp3 ?_;refine ak 6 hp3 ?_ (v:=.pointer (some ⟨V6,0,none⟩));refine ak 7 hp3 ?_ (v:=.int .i64 0);refine ak 8 hp3 ?_;simp only[ah,ag];refine ak 9 hp3 ?_;simp only[ah,ag];refine aM ?_;have g2:=(b2.block lb (bM g1)).trans g1;clear bp1 TC hp1 hp2 hp3 HH SS;have hl1:∀k,(k=QZ∨L1.own k)→k<q3.heap.size:=fun k hk=>by
  rcases hk with e|e
  ·rw[e];exact Dy.o.lt
  ·exact Dy.o.te.jv e
 have FN:wU p3 QZ L1 (agM.fresh (nA a) (ny b)):=Dy.o.kept (P:=fun _=>False) (Ch.of_below b2) id (fun _ _=>id);have TQ:iE q3:=htW.ch (P:=fun _=>False) (Ch.of_below HB1.o) (fun _ _=>id);have TP:iE p3:=TQ.ch (P:=fun _=>False) (Ch.of_below b2) (fun _ _=>id);have OK0:=agM.Ok.fresh (mY a) (mX b);have lf:=yP QZ L1 (agM.fresh (nA a) (ny b)) ⟨#[27,91,49,109,81]⟩ p3 FN OK0 TP (by omega) (by decide);rw[show bl ⟨#[27,91,49,109,81]⟩=[27,91,49,109,81] from rfl]at lf;have OK1:((agM.fresh (nA a) (ny b)).feed [27,91,49,109,81]).Ok:=OK0.feed _ (by intro x hx;simp at hx;omega);have OO:∀u L v cs,FI p3 QZ L1 v cs ((agM.fresh (nA a) (ny b)).feed [27,91,49,109,81]) u L→_:=fun u L v cs hF=>QL QZ L _ 0 0 0 (by omega) OK1.t.r1 OK1.t.c1 u hF.f OK1.t;simp only[Ty (nA a) (ny b) (mY a).1 (mX b).1,Int.natCast_zero]at OO;have AO:Hid _:=F2;have HB2:Hid _:=b2;have HLC:Hid _:=OO;have aeA:V6≠QZ:=by have:=hl1 QZ (.inl rfl);omega
 clear F2 b2 FN TQ TP OK0 OK1 OO;generalize (agM.fresh (nA a) (ny b)).feed [27,91,49,109,81]=X at*;go_wp2_with (first|(go_at_call 16;refine lf.mono ?_;rintro e w4 ⟨rfl,v4,cs4,L4,FI4⟩)|(go_at_call 48;refine(HLC.o _ _ _ _ FI4).mono ?_;rintro e w5 ⟨rfl,s5⟩)|(refine bY _ rfl 104 (.tmp 8) (.tmp 45) rfl w5.heap.size (cellV jU) (cellV ⟨81,⟨true,false,false,0,0⟩,0⟩) rfl _ rfl rfl 104 (bJ _ _) rfl eF (gF _) ?_));intro u6 g6 k6 z6;have C6:Ch (fun k=>k=QZ∨L1.own k) p3 u6:=(FI4.ch.trans (Sm.ch s5)).trans' (((Ch.refl (fun _=>False) w5).alloc _).trans' (R:=fun k=>k=w5.heap.size) k6 (fun k hk e=>by omega) |>.mono (R:=fun k=>False) (fun _ _ h=>h)) (fun _ _ h=>h.elim);have F6:wU u6 V6 L2 (agM.fresh (nA a) (ny b)):=AO.o.kept C6 (fun h=>by have:=hl1 V6 h;omega) (fun k hk h=>by have:=hl1 k h;have:=hL2 k hk;omega);have B6:Below w.heap.size w u6:=by
  have hs3:=HB1.o.size;have hsp:=HB2.o.size;have hsw:=BW.size
  exact(((BW.trans (HB1.o.mono (by omega))).trans (HB2.o.mono (by omega))).trans (C6.below (by omega) (fun k hk h=>by
   rcases h with e|e
   ·omega
   ·have:=hL1 k e;omega)))
 have HF6:Hid _:=F6;have HB6:Hid _:=B6;have hown6:∀k,L2.own k→w.heap.size≤k:=fun k hk=>by have:=hL2 k hk;have:=HB1.o.size;have:=BW.size;omega
 have aci:w.heap.size≤V6:=by have:=HB1.o.size;have:=BW.size;omega
 clear F6 B6 C6 FI4 s5 lf HLC k6 Dy HB1 AO HB2 g1 g2 hl1;go_wp2_with fail;have RG:∀u:World,u.heap=u6.heap→u.rangeAt w5.heap.size 0 (cellV ⟨81,⟨true,false,false,0,0⟩,0⟩):=fun u hu j v hv=>by rw[dJ u _ _ _ _ _ (by rw[hu];exact g6),lG];simpa using hv
 have HH:=RG ({u6 with drawn:=u6.drawn+1}:World) rfl;refine fJ (S:=fun x=>x.rangeAt w5.heap.size 0 (cellV ⟨81,⟨true,false,false,0,0⟩,0⟩)) bI ?_;refine g_ 0 1 HH ?_;refine ak 2 HH ?_ (v:=.bool true);refine ak 3 HH ?_;simp only[ah,ag];refine ak 4 HH ?_ (v:=.agg (bO ⟨81,⟨true,false,false,0,0⟩,0⟩)) (hy:=(ug (by rfl) 104 (.tmp 8) rfl w5.heap.size 0 rfl (cellV ⟨81,⟨true,false,false,0,0⟩,0⟩) _ (fun x h=>h) underlying104 rfl eF));refine ak 5 HH ?_ (v:=.agg #[.bool true,.bool false,.bool false,.int .i64 0,.int .i64 0]);refine ak 6 HH ?_ (v:=.agg (bO ⟨81,⟨true,false,false,0,0⟩,0⟩));simp only[ah,ag];refine ak 7 HH ?_ (v:=.bool true) (hy:=(Or.inl ⟨by rfl,fun x _=>zy (.tmp 51) (.tmp 53) rfl ⟨81,⟨true,false,false,0,0⟩,0⟩ ⟨81,⟨true,false,false,0,0⟩,0⟩ rfl rfl x⟩));refine ak 8 HH ?_ (v:=.bool true);refine g_ 9 10 HH ?_;simp only[ah,ag];refine aM ?_;go_wp2_with fail;go_ret2;exact⟨V6,L2,rfl,HF6.o.kept (P:=fun _=>False) ((Ch.refl _ _).drewN 1) id (fun _ _=>id),aci,hown6,HB6.o.drew⟩
def NK (w:World) (ao:Option Addr) (T:List ByteArray):Prop:=∀j t,T[j]? =some t→∃b o,ao=some ⟨b,o,none⟩∧b<w.heap.size∧w.cell? ⟨b,o+j,none⟩=some (.string t)
theorem NK.below{ao:Option Addr}{T:List ByteArray}(h:NK w ao T)(b:Below w.heap.size w w'):NK w' ao T:=fun j t hj=>by obtain⟨x,o,h1,h2,h3⟩:=h j t hj;exact⟨x,o,h1,aH h2 b.size,(eT (b.block x h2)).trans h3⟩
def xM (T:List ByteArray):List Int:=T.flatMap bl
theorem KG(T:List ByteArray):∀b∈xM T,0≤b∧b<256:=fun b hb=>by obtain⟨t,_,ht⟩:=List.mem_flatMap.1 hb;exact nJ t b ht
theorem KH(T:List ByteArray)(t:ByteArray):xM (T++[t])=xM T++bl t:=by simp[xM]
structure AL (B:Nat) (w:World) (fb:Nat) (L:Lay) (rows aa:Nat) (l:List Int):Prop where
 f:wU w fb L ((agM.fresh rows aa).feed l)
 fb:B≤fb
 own:∀k,L.own k→B≤k
theorem AL.feed{B:Nat}{w0:World}{fb:Nat}{L:Lay}{rows aa:Nat}{l:List Int}{t:List Int}(h:AL B w fb L rows aa l)(hB:B≤w.heap.size)(b0:Below B w0 w){v:Value}{cs:List Int}{L':Lay}(n:FI w fb L v cs (((agM.fresh rows aa).feed l).feed t) w' L'):AL B w' fb L' rows aa (l++t)∧Below B w0 w':=by
 refine⟨⟨by rw[xm];exact n.f,h.fb,fun k hk=>?_⟩,b0.trans (n.ch.below hB (fun k hk e=>?_))⟩
 ·rcases n.gr k hk with q|q
  ·exact h.own k q
  ·omega
 ·rcases e with e|e
  ·have:=h.fb;omega
  ·have:=h.own k e;omega
theorem Q0(a b:Int)(ao:Option Addr)(cap:Nat)(T:List ByteArray)(w:World)(ha: -9223372036854775808≤a∧a≤9223372036854775807)(hb: -9223372036854775808≤b∧b≤9223372036854775807)(htb:iE w)(hT:NK w ao T)(hTl:T.length≤281474976710656)(hTs:∀t∈T,t.size≤281474976710656):
 Calls prog 8 #[.agg #[.int .i64 a,.int .i64 b],.slice ao T.length cap] w fun e w'=>∃fb L,e= .returned (.tuple #[.pointer (some ⟨fb,0,none⟩),.bool true])∧AL w.heap.size w' fb L (nA a) (ny b) (xM T)∧Below w.heap.size w w':=by
 have hw2:2<w.heap.size:=by obtain⟨t,fr,h⟩:=htb.st;exact bM h
 have BW:Below w.heap.size w (w.alloc (.cells #[.int .i64 a,.int .i64 b] 23)):=(dF _ _).alloc (bE _) _;have l1:=KN a b (w.alloc (.cells #[.int .i64 a,.int .i64 b] 23)) ha hb (htb.ch ((Ch.refl (fun _=>False) w).alloc _) (fun _ _ h=>h));have HTX:Hid _:=hT;have NB:Hid _:=hTs;have WW:Hid _:=htb;clear hT hTs htb;go_enter func8,ntmps8;go_wp2_with (go_at_call 19;refine l1.mono ?_;rintro e w1 ⟨fb,L1,rfl,F1,ach,hL1,b1⟩);have hsW:(w.alloc (.cells #[.int .i64 a,.int .i64 b] 23)).heap.size=w.heap.size+1:=by simp
 have BB:Below w.heap.size w w1:=BW.trans (b1.mono (by omega));have A1:AL w.heap.size w1 fb L1 (nA a) (ny b) (xM []):=⟨F1,by omega,fun k hk=>by have:=hL1 k hk;omega⟩;have HA1:Hid _:=A1;have HBB:Hid _:=BB;clear A1 BB F1 b1 hL1 l1 BW;go_loopw [8] (fun i wr=>∃(k:Nat) (L:Lay),k≤T.length∧i= .int .i64 k∧AL w.heap.size wr fb L (nA a) (ny b) (xM (T.take k))∧Below w.heap.size w wr) (fun i _=>T.length-(intOf i).toNat)
 case atStart=>exact⟨0,L1,jy _,rfl,HA1.o,HBB.o⟩
 case round=>
  clear HA1 HBB;obtain⟨k,L,hk,rfl,A,B⟩:=hrel;have HA:Hid _:=A;have HB:Hid _:=B;clear A B;by_cases hlt:k<T.length
  ·have ik:(k:Int)<(T.length:Int):=by omega
   obtain⟨t,ht⟩:∃t,T[k]? =some t:=⟨_,gK hlt⟩;obtain⟨xb,xo,rfl,hxl,hxc⟩:=HTX.o k t ht;have hcell:wr.cell? ⟨xb,xo+k,none⟩=some (.string t):=(eT (HB.o.block xb hxl)).trans hxc;have vk:IntKind.i64.wrap ((k:Int)+1)=(k:Int)+1:=bV _ (by omega);have hOK:((agM.fresh (nA a) (ny b)).feed (xM (T.take k))).Ok:=(agM.Ok.fresh (mY a) (mX b)).feed _ (KG _);have hTW:iE wr:=WW.o.kept (fun j hj=>HB.o.block j (by omega));have lf:=yP fb L _ t wr HA.o.f hOK hTW (by have:=HA.o.fb;omega) (NB.o t (fu ht));have HTK:Hid (xM (T.take (k+1))=xM (T.take k)++bl t):=by obtain⟨h1,h2⟩:=ja.1 ht;show _=_;rw[yh h1,h2,KH]
   clear hOK hTW hxc ht;go_wp2_with (go_at_call 16;refine lf.mono ?_;rintro e w2 ⟨rfl,v2,cs2,L2,F2⟩);have R:=HA.o.feed HB.o.size HB.o F2;go_roundw
   case rel=>exact⟨k+1,L2,by omega,by go_num,by rw[HTK.o];exact R.1,R.2⟩
   case measure=>simp[intOf];omega
  ·have hkn:k=T.length:=by omega
   have dk:decide ((k:Int)<(T.length:Int))=false:=by simp;omega
   have HTK:Hid (T.take k=T):=by show _=_;rw[hkn,List.take_length]
   go_wp2_with fail;go_ret2;exact⟨fb,L,rfl,HTK.o▸HA.o,HB.o⟩
theorem UL(ty:TypeId)(hty:ty=104∨ty=125∨ty=127)(op:BinOp)(x y:Operand)(xs ys:Array Value)(w:World):(eqGuard op ty x y (.agg xs) (.agg ys)).run prog w= .ok () w:=by
 rcases hty with rfl|rfl|rfl
 ·exact run_eqGuard_agg w op 104 x y xs ys (by kernel_rfl)
 ·exact run_eqGuard_agg w op 125 x y xs ys (by kernel_rfl)
 ·exact run_eqGuard_agg w op 127 x y xs ys (by kernel_rfl)
end Go.Proofs.YtheibfffilomcabGreatDoor
