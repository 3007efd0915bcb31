import Derived.Test.YtheibfffilomcaaGreatDoorTmaU
import Derived.Test.YtheibfffilomcaaGreatDoorUbU
import Derived.Test.YtheibfffilomcaaGreatDoorXiU
import Derived.Test.YtheibfffilomcaaGreatDoorGaU
import Derived.Test.YtheibfffilomcaaGreatDoorGbU
import Derived.Test.YtheibfffilomcaaGreatDoorVdU
import Derived.Test.YtheibfffilomcaaGreatDoorVfU
import Derived.Deep.DeepCutAuto
import Derived.Test.YtheibfffilomcaaGreatDoorVkU
import Derived.Test.YtheibfffilomcaaGreatDoorUkU
import Derived.Lib.UnsafeStr
import Derived.BigRegion
import Derived.Test.YtheibfffilomcaaGreatDoorVoU
set_option linter.all false
namespace Go.Proofs.YtheibfffilomcaaGreatDoor
open Go.RowKit Go.Proofs.Tryz
variable {w w' u:World} {d:DT} {wb ah g:Nat} {L:Lay} {x:WS} {Q:Exit→Act→World→Prop} {ds:List Deferred} {S:cz} {K:Act→World→Prop} {t:TypeId} {r:List aI} {ops:Array Oper} {rest:List Oper}
structure Wr (w:World) (wb:Nat) (L:Lay) (s:TS) (x:WS):Prop where
 wr:iK w wb L.tb x
 te:cO w L s
 lo:∀k,L.own k→k<wb
theorem Wr.step{s:TS}{x':WS}(h:Wr w wb L s x)(k:Wk wb w w')(hw:iK w' wb L.tb x'):Wr w' wb L s x':=
 ⟨hw,h.te.kept (P:=fun k=>wb≤k) ⟨k.b.os,k.b.tape,k.b.output,k.b.size,fun i _ hn=>k.b.block i (by omega)⟩ (fun i hi hn=>by have:=h.lo i hi;omega),h.lo⟩
theorem Wr.keep{s:TS}(h:Wr w wb L s x)(c:Below w.heap.size w w'):Wr w' wb L s x:=⟨h.wr.keep c,h.te.sm (Ch.of_below c),h.lo⟩
theorem Sm.iB(h:Sm w w'):Below w.heap.size w w':=h.below (bN _) (fun _ _ h=>h)
theorem Wr.c0{s:TS}(h:Wr w wb L s x):w.cell? ⟨wb,0,none⟩=some (.pointer (some ⟨L.tb,0,none⟩)):=by obtain⟨p,v,h1,_⟩:=h.wr.ex;exact(bG _ _ _ _ _ _ h1).trans rfl
theorem Wr.lt{w:World}{wb:Nat}{L:Lay}{s:TS}{x:WS}(h:Wr w wb L s x):wb<w.heap.size:=h.wr.lt
theorem Wr.drew{s:TS}(h:Wr w wb L s x)(n:Nat):Wr (w.drewN n) wb L s x:=h.keep ⟨rfl,rfl,rfl,bN _,fun _ _=>rfl⟩
theorem lD.ack{base:Nat}{v:Value}{L:List Int}(h:lD w base v L)(hb:∀k,v.ownBlock=some k→w'.heap[k]? =w.heap[k]?):lD w' base v L:=by
 obtain⟨h1,h2⟩:=h;refine⟨h1,?_⟩;rcases h2 with h2|⟨g,cap,cur,hv,hg,hk,r⟩
 ·exact .inl h2
 ·exact .inr ⟨g,cap,cur,hv,hg,(hb g (by rw[hv];rfl)).trans hk,r⟩
theorem Wr.set{s:TS}{cs:Array Value}{fr:Nat × Nat}(h:Wr w wb L s x)(k:Ch (· =g) w w')(hg:w.heap[g]? =some (.cells cs t fr))(ht:t≠5)(hgw:wb<g):Wr w' wb L s x:=by obtain⟨p,v,q1,q2,q3⟩:=h.wr.ex;refine⟨⟨⟨p,v,(k.block wb (aK q1) (by omega)).trans q1,q2,q3.ack (fun i hi=>?_)⟩,h.wr.Xx⟩,h.te.kept k (fun i hi e=>by have:=h.lo i hi;omega),h.lo⟩;obtain⟨cur,hc⟩:=q3.nb hi;refine k.block i (aK hc) (fun e=>?_);subst e;rw[hg]at hc;injection hc with e;injection e with _ e2 _;exact ht e2
def TS.az (s:TS) (n:Nat):bS:=if n=0 then s.s0 else s.s1
structure sV (s:TS):Prop where
 ok:∀n i k,i<s.rows→k<s.ah→(s.cellAt n i k).part=2∨(s.cellAt n i k).Ok
 tl:∀n i k,i<s.rows→k<s.ah→(s.cellAt n i k).part=2→1≤k

theorem LY(d:Nat)(p q:di)(w:World):(Op.equalIn (d+3) 82 (.agg (aB p).toArray) (.agg (aB q).toArray)).run prog w= .ok (decide (p=q)) w:=by
 have hu:prog.underlying 82=some (.struct (prog.fieldsOf 82)):=by kernel_rfl
 have hp:prog.stoodInHeld 82=false:=by kernel_rfl
 rw[run_equalIn_struct w (d+2) 82 _ _ hu hp];rw[vN (d+2) _ _ w _ [(3,0,p.row==q.row),(3,1,p.col==q.col),(4,2,p.waits==q.waits),(80,3,decide (p.pen=q.pen)),(3,8,p.first==q.first),(3,9,p.second==q.second),(3,10,p.use==q.use),(4,11,p.origin==q.origin)] (pV (by kernel_rfl)) (by kernel_rfl) ?_]
 ·refine congrArg (fun z=>Result.ok z w) ?_;obtain⟨a1,a2,a3,a4,a5,a6,a7,a8⟩:=p;obtain⟨b1,b2,b3,b4,b5,b6,b7,b8⟩:=q;simp only[List.all_cons,List.all_nil,di.mk.injEq,Bool.and_true];rw[Bool.eq_iff_iff];simp
 ·intro x hx;simp only[kK,pX,pY]at hx;rcases hx with rfl|rfl|rfl|rfl|rfl|rfl|rfl|rfl
  ·exact⟨_,_,oF _ 0 p.row rfl w,oF _ 0 q.row rfl w,UI (d+1) _ _ w⟩
  ·exact⟨_,_,oF _ 1 p.col rfl w,oF _ 1 q.col rfl w,UI (d+1) _ _ w⟩
  ·exact⟨_,_,wY _ 2 p.waits rfl w,wY _ 2 q.waits rfl w,eqB (d+1) _ _ w⟩
  ·refine⟨_,_,Fa _ 3 w,Fa _ 3 w,?_⟩;exact eqP d p.pen q.pen w
  ·exact⟨_,_,oF _ 8 p.first rfl w,oF _ 8 q.first rfl w,UI (d+1) _ _ w⟩
  ·exact⟨_,_,oF _ 9 p.second rfl w,oF _ 9 q.second rfl w,UI (d+1) _ _ w⟩
  ·exact⟨_,_,oF _ 10 p.use rfl w,oF _ 10 q.use rfl w,UI (d+1) _ _ w⟩
  ·exact⟨_,_,wY _ 11 p.origin rfl w,wY _ 11 q.origin rfl w,eqB (d+1) _ _ w⟩
theorem LZ(p q:di)(w:World):(binOp .eql 82 (.agg (aB p).toArray) (.agg (aB q).toArray)).run prog w= .ok (.bool (decide (p=q))) w:=by rw[run_eql_struct,LY 9997];rfl
def SK:List Value:=[.int .i64 0,.int .i64 0,.bool false,.bool false,.bool false,.bool false,.int .i64 0,.int .i64 0,.int .i64 0,.int .i64 0,.int .i64 0,.bool false]
structure zl (s:TS) (p:di):Prop where
 r:0≤p.row∧p.row<(s.rows:Int)
 c:0≤p.col∧p.col<(s.ah:Int)
 fit:p.Fit s.ah
structure uM (s:TS):Prop where
 c:sV s
 r:∀n,n<2→∀q∈s.az n,q.length=s.ah∧∀c∈q,c.part=2∨c.Ok
 l:∀n,n<2→(s.az n).length=s.rows
 v:∀n,n<2→zl s (s.gW n)

theorem Cg{o:Oper}{l:List Value}(d:Nat)(ho:o.op= .alloc 87)(hd:o.dst=some d)(h:K ⟨(l.set d (.pointer (some ⟨u.heap.size,0,none⟩))).toArray,ds⟩ (u.alloc (.cells (aT (.slice none 0 0) aY).toArray 87))):Oper.wp prog o ⟨l.toArray,ds⟩ u K Q:=by unfold Oper.wp execOp;simp only[ho];go_simp;exact h
theorem uo{o:Oper}{a:Act}(ty:TypeId)(x y:Operand)(ho:o.op= .store ty x y)(hd:o.dst=none)(g:Nat)(L cs:List Value)(hx:a.eval x= .pointer (some ⟨g,0,none⟩))(hy:a.eval y= .agg cs.toArray)(t:TypeId)(G:u.heap[g]? =some (.cells L.toArray t (0,0)))(hl:L.length=cs.length)(hsz:(prog.info? ty).map (·.size)=some cs.length)(h1:∀v∈cs,v.oneCell'=true)(h:∀u',u'.heap[g]? =some (.cells cs.toArray t (0,0))→Ch (· =g) u u'→K a u'):Oper.wp prog o a u K Q:=by
 have hz:=size_setCells g cs 0 u;have c:Ch (· =g) u (u.setCells g 0 cs):=⟨hz.2.1,hz.2.2.1,hz.2.2.2,by omega,fun i _ hn=>iR g _ _ _ i hn⟩;have b:=nO (o:=0) (vs:=cs) G (by omega);refine wp_store_mid ty x y ho g 0 cs.toArray hx hy (by simpa using vI G (by omega:0+cs.length≤L.length)) (by simpa using hsz) (all_oneCell_toArray h1) ?_;rw[hd];refine h _ ?_ (by simpa using c);have e:List.drop (0+cs.length) L=[]:=by rw[lH, ←hl];simp
 rw[e]at b;simpa using b
theorem fK{L:List Value}{f:Nat × Nat}(h:w.heap[g]? =some (.cells L.toArray t f)):w.rangeAt g 0 L:=fun i v hv=>by rw[lH,bG _ _ _ _ _ _ h];simpa using hv
theorem Sy(a ah k m:Nat)(hm:m=k*ah):DT.wi ((a:Int)-(m:Int)) 0 (ah:Int)=(DT.pK a ah k:Int):=by unfold DT.wi DT.pK;rw[←hm];split<;>split<;>omega
theorem Qc(hs:d.t.shown=0)(a b:Nat):d.cleared a b= {d with d0:=DT.fq d.d0 a b d.t.ah d.t.rows}:=by unfold DT.cleared DT.setCur DT.cur;rw[ak hs,ak hs]
theorem Qd(hs:d.t.shown=1)(a b:Nat):d.cleared a b= {d with d1:=DT.fq d.d1 a b d.t.ah d.t.rows}:=by unfold DT.cleared DT.setCur DT.cur;rw[ai (by omega),ai (by omega)]
theorem DT.Ok.ls0(h:d.Ok):d.d0.length=d.t.rows:=by have:=h.inv.l0;have e:d.abs.s0=dM d.d0:=rfl;rw[e,bF]at this;exact this
theorem DT.Ok.ls1(h:d.Ok):d.d1.length=d.t.rows:=by have:=h.inv.l1;have e:d.abs.s1=dM d.d1:=rfl;rw[e,bF]at this;exact this

def jY (R:List aI):Nat:=if(R.getD (R.length-1) aD).part=2 then R.length-2 else R.length-1
theorem Sm.fresh{u':World}{o:Obj}(k:Ch (· =u.heap.size) (u.alloc o) u'):Sm u u':=((Ch.refl _ _).alloc _).trans' k (fun j hj e=>by omega)



namespace WS
end WS
structure Da (s:TS):Prop where
 v:zl s s.spot
 o:s.origin=true→s.top≤s.row

theorem eD.parts(h:eD r):∀c∈r,c.part=2∨c.Ok:=by
 induction h with
 |nil=>intro c hc;cases hc
 |one c r hp hw hs h ih=>
  intro d hd;rcases kK.1 hd with rfl|hd
  ·exact .inr hs
  ·exact ih d hd
 |two c r hp hw hs h ih=>
  intro d hd;rcases kK.1 hd with rfl|hd
  ·exact .inr hs
  ·rcases kK.1 hd with rfl|hd
   ·exact .inl rfl
   ·exact ih d hd
theorem zN{s:TS}(hI:s.Inv)(n:Nat):(s.az n).length=s.rows:=by
 unfold TS.az;split
 ·exact hI.l0
 ·exact hI.l1
theorem xK{s:TS}(hF:s.Fit)(n:Nat):GoodS s.ah (s.az n):=by
 unfold TS.az;split
 ·exact hF.g0
 ·exact hF.g1
theorem EA(s:TS)(n i k:Nat):s.cellAt n i k=((s.az n).getD i []).getD k aD:=rfl
theorem Bt{α:Type}(l:List α)(k:Nat)(d:α)(h:k<l.length):l.getD k d∈l:=by rw[List.getD_eq_getElem?_getD,eG h];exact zW h
theorem sV.of{s:TS}(hI:s.Inv)(hF:s.Fit):sV s:=by
 refine⟨fun n i k hi hk=>?_,fun n i k hi hk hp=>?_⟩
 ·have g:=(xK hF n).getD (i:=i) (by rw[zN hI];exact hi);rw[EA];exact g.1.parts _ (Bt _ _ _ (by rw[g.2];exact hk))
 ·have g:=(xK hF n).getD (i:=i) (by rw[zN hI];exact hi);rcases Nat.eq_zero_or_pos k with rfl|h
  ·exact absurd hp (g.1.head aD (by decide))
  ·exact h
theorem uM.of{s:TS}(hI:s.Inv)(hF:s.Fit):uM s:=by
 refine⟨sV.of hI hF,fun n _ q hq=>?_,fun n _=>zN hI n,fun n _=>?_⟩
 ·have g:=xK hF n q hq;exact⟨g.2,g.1.parts⟩
 ·unfold TS.gW;split
  ·exact⟨hI.Y4,hI.Y3,hF.v0⟩
  ·exact⟨hI.Y6,hI.Y5,hF.v1⟩
theorem Da.of{s:TS}(hI:s.Inv)(hF:s.Fit):Da s:=⟨⟨⟨hI.row0,hI.jK⟩,⟨hI.jA,hI.jD⟩,⟨hF.f,hF.sc,hF.u,hF.p,hF.w⟩⟩,fun e=>(hF.o e).1⟩
structure Ju (Sh:bS) (p:di) (R:List aI):Prop where
 row:Sh.getD p.row.toNat []=R
 wt:p.waits=true→p.col=(R.length:Int)-1
 len:1≤R.length
 l2:(R.getD (R.length-1) aD).part=2→2≤R.length
 np:(R.getD (jY R) aD).part≠2
theorem eD.afV(h:eD r):∀k,k<r.length→
 ((r.getD k aD).part=0∧j_ (r.getD k aD).r=1)∨
 ((r.getD k aD).part=1∧j_ (r.getD k aD).r=2∧k+1<r.length∧r.getD (k+1) aD=jQ (r.getD k aD))∨
 (1≤k∧(r.getD (k-1) aD).part=1∧r.getD k aD=jQ (r.getD (k-1) aD)):=by
 induction h with
 |nil=>intro k hk;simp at hk
 |one c r hp hw hs h ih=>
  intro k hk;cases k with
  |zero=>left;exact⟨hp,hw⟩
  |succ k=>
   have hk':k<r.length:=by simpa using hk
   rcases ih k hk' with h1|⟨h1,h2,h3,h4⟩|⟨h1,h2,h3⟩
   ·left;exact h1
   ·right;left;exact⟨h1,h2,by simpa using h3,h4⟩
   ·right;right;obtain⟨j,rfl⟩:∃j,k=j+1:=⟨k-1,by omega⟩;exact⟨by omega,h2,h3⟩
 |two c r hp hw hs h ih=>
  intro k hk
  match k,hk with
  | 0,_=>right;left;exact⟨hp,hw,by simp,rfl⟩
  | 1,_=>right;right;exact⟨bN 1,hp,rfl⟩
  |k+2,hk=>
   have hk':k<r.length:=by simp at hk;omega
   rcases ih k hk' with h1|⟨h1,h2,h3,h4⟩|⟨h1,h2,h3⟩
   ·left;exact h1
   ·right;left;exact⟨h1,h2,by simp;omega,h4⟩
   ·right;right;obtain⟨j,rfl⟩:∃j,k=j+1:=⟨k-1,by omega⟩;exact⟨by omega,h2,h3⟩
theorem DJ{R:List aI}(h:eD R)(hl:1≤R.length):((R.getD (R.length-1) aD).part=2→2≤R.length)∧(R.getD (jY R) aD).part≠2∧jY R<R.length:=by
 have hn:=h.afV (R.length-1) (by omega);have hz:(aD.part:Int)≠2:=by decide
 rcases hn with⟨a,_⟩|⟨a,_,b,_⟩|⟨a,b,c⟩
 ·have el:jY R=R.length-1:=by unfold jY;rw[ai (by omega)]
  exact⟨fun x=>by omega,by rw[el];omega,by rw[el];omega⟩
 ·omega
 ·have hp:(R.getD (R.length-1) aD).part=2:=by rw[c];rfl
  have el:jY R=R.length-2:=by unfold jY;rw[ak hp]
  refine⟨fun _=>by omega,?_,by rw[el];omega⟩;rw[el,show R.length-2=R.length-1-1 by omega];omega
theorem Ju.of{Sh:bS}{p:di}{rows:Nat}(hl:Sh.length=rows)(hg:GoodS ah Sh)(hc:1≤ah)(hr:0≤p.row∧p.row<(rows:Int))(hf:p.Fit ah):Ju Sh p (Sh.getD p.row.toNat []):=by have hm:Sh.getD p.row.toNat []∈Sh:=Bt _ _ _ (by omega);have hgr:=hg _ hm;have hL:(Sh.getD p.row.toNat []).length=ah:=hgr.2;have k:=DJ hgr.1 (by omega);exact⟨rfl,fun w=>by rw[hL];exact hf.w w,by omega,k.1,k.2.1⟩
theorem zO{r:bY}(h:r∈S):strip r∈dM S:=List.mem_map.2 ⟨r,h,rfl⟩
theorem KP{r:bY}{c:DC}(h:c∈r):c.1∈strip r:=List.mem_map.2 ⟨c,h,rfl⟩
structure ShT (S:cz) (rows ah:Nat):Prop where
 len:S.length=rows
 good:GoodS ah (dM S)
theorem ShT.cells{rows:Nat}(h:ShT S rows ah):∀r∈S,∀c∈r,c.1.part=2∨c.1.Ok:=fun r hr c hc=>(h.good _ (zO hr)).1.parts c.1 (KP hc)
theorem ShT.rl{rows:Nat}(h:ShT S rows ah):∀r∈S,r.length=ah:=fun r hr=>by have:=(h.good _ (zO hr)).2;rwa[aU]at this
theorem ShT.row{rows:Nat}(h:ShT S rows ah)(hc:1≤ah)(p:di)(hp:0≤p.row∧p.row<(rows:Int)):∃(pr:Nat) (r:bY),p.row=(pr:Int)∧S[pr]? =some r∧(dM S).getD p.row.toNat []=strip r∧(((strip r).getD (r.length-1) aD).part=2→2≤r.length)∧((strip r).getD (jY (strip r)) aD).Ok:=by obtain⟨pr,hpr⟩:∃n:Nat,p.row=(n:Int):=⟨p.row.toNat,by omega⟩;have hl:=h.len;obtain⟨r,hr⟩:∃r,S[pr]? =some r:=⟨_,eG (by omega)⟩;have hm:=iH hr;have hg:=h.good _ (zO hm);have hrl:=h.rl r hm;have k:=DJ hg.1 (by rw[aU];omega);rw[aU]at k;refine⟨pr,r,hpr,hr,by rw[gV,hpr,lF];simp[List.getD,hr],k.1,?_⟩;have hmem:(strip r).getD (jY (strip r)) aD∈strip r:=Bt _ _ _ (by rw[aU];exact k.2.2);exact(hg.1.parts _ hmem).resolve_left k.2.1
theorem Ma(n:Int)(w:World):Calls prog 24 #[.int .i64 n] w fun e w'=>e= .returned (.int .i64 n)∧w'=w:=by go_enter func24,ntmps24;go_wp2_with fail;go_ret;exact⟨rfl,rfl⟩
theorem aaf(fb:Nat)(L:Lay)(x:akA)(n:Int)(hn:¬(0≤n∧n<2))(w:World)(h:Cm w fb L x):Calls prog 35 #[.pointer (some ⟨fb,0,none⟩),.int .i64 n] w fun e w'=>e= .returned (.tuple #[.agg (aB aY).toArray,.int .i64 2])∧Sm w w':=by have hpt:=h.pt;have hfl:=h.lt;have l0:∀o,_:=fun o=>bC L n (w.alloc o);rw[jh hn]at l0;clear h;go_enter func35,ntmps35;go_wp2_with (first|(go_at_call 76;refine(l0 _).mono ?_;rintro e w1 ⟨rfl,hw1⟩;subst hw1)|(refine bK _ rfl 82 (.tmp 4) (.tmp 13) rfl w.heap.size [.int .i64 0,.int .i64 0,.bool false,.bool false,.bool false,.bool false,.int .i64 0,.int .i64 0,.int .i64 0,.int .i64 0,.int .i64 0,.bool false] (aB aY) rfl _ rfl rfl 82 (bV _ _) rfl bH (iM aY) ?_));intro u2 g2 k2 z2;go_wp2_with fail;exact bX (bf results35 _ _ w.heap.size (aB aY) 82 (0,0) underlying82 bH rfl g2) rfl ⟨rfl,((Ch.refl _ _).alloc _).trans' k2 (fun k hk e=>by omega)⟩
theorem X0(fb:Nat)(L:Lay)(x:akA)(n i k:Int)(hl0:¬(0≤n∧n<2))(w:World)(h:Cm w fb L x)(hI:x.t.Inv):Calls prog 38 #[.pointer (some ⟨fb,0,none⟩),.int .i64 n,.int .i64 i,.int .i64 k] w fun e w'=>e= .returned (.tuple #[.agg (dw nG),.int .i64 2])∧Sm w w':=by have hpt:=h.pt;have hfl:=h.lt;have T:∀o,cO (w.alloc o) L x.t:=fun o=>h.te.sm ((Ch.refl _ _).alloc _);have l0:∀o,_:=fun o=>bC L n (w.alloc o);rw[jh hl0]at l0;clear h hI T;go_enter func38,ntmps38;go_wp2_with (first|(go_at_call 76;refine(l0 _).mono ?_;rintro e w1 ⟨rfl,hw1⟩;subst hw1)|(refine bK _ rfl 101 (.tmp 8) (.tmp 35) rfl w.heap.size (cellV nG) (cellV nG) rfl _ rfl rfl 101 (bV _ _) rfl g_ (jW nG) ?_));intro u2 g2 k2 z2;go_wp2_with fail;exact bX (bf results38 _ _ w.heap.size (cellV nG) 101 (0,0) underlying101 g_ rfl g2) rfl ⟨rfl,((Ch.refl _ _).alloc _).trans' k2 (fun k hk e=>by omega)⟩
theorem X3(fb:Nat)(L:Lay)(x:akA)(n i k:Int)(hl0:0≤n∧n<2)(hl2:¬(0≤i∧i<(x.t.rows:Int)))(w:World)(h:Cm w fb L x)(hI:x.t.Inv):Calls prog 38 #[.pointer (some ⟨fb,0,none⟩),.int .i64 n,.int .i64 i,.int .i64 k] w fun e w'=>e= .returned (.tuple #[.agg (dw nG),.int .i64 2])∧Sm w w':=by have hpt:=h.pt;have hfl:=h.lt;have T:∀o,cO (w.alloc o) L x.t:=fun o=>h.te.sm ((Ch.refl _ _).alloc _);have l0:∀o,_:=fun o=>bC L n (w.alloc o);rw[iP hl0]at l0;have l2:∀o,_:=fun o=>l8 L x.t i (w.alloc o) (T o) hI;rw[jh hl2]at l2;clear h hI T;go_enter func38,ntmps38;go_wp2_with (first|(go_at_call 76;refine(l0 _).mono ?_;rintro e w1 ⟨rfl,hw1⟩;subst hw1)|(go_at_call 79;refine(l2 _).mono ?_;rintro e w1 ⟨rfl,hw1⟩;subst hw1)|(refine bK _ rfl 101 (.tmp 8) (.tmp 35) rfl w.heap.size (cellV nG) (cellV nG) rfl _ rfl rfl 101 (bV _ _) rfl g_ (jW nG) ?_));intro u2 g2 k2 z2;go_wp2_with fail;exact bX (bf results38 _ _ w.heap.size (cellV nG) 101 (0,0) underlying101 g_ rfl g2) rfl ⟨rfl,((Ch.refl _ _).alloc _).trans' k2 (fun k hk e=>by omega)⟩
theorem aaa(fb:Nat)(L:Lay)(x:akA)(n i k:Int)(hl0:0≤n∧n<2)(hl2:0≤i∧i<(x.t.rows:Int))(hl3:¬(0≤k∧k<(x.t.ah:Int)))(w:World)(h:Cm w fb L x)(hI:x.t.Inv):Calls prog 38 #[.pointer (some ⟨fb,0,none⟩),.int .i64 n,.int .i64 i,.int .i64 k] w fun e w'=>e= .returned (.tuple #[.agg (dw nG),.int .i64 2])∧Sm w w':=by have hpt:=h.pt;have hfl:=h.lt;have T:∀o,cO (w.alloc o) L x.t:=fun o=>h.te.sm ((Ch.refl _ _).alloc _);have l0:∀o,_:=fun o=>bC L n (w.alloc o);rw[iP hl0]at l0;have l2:∀o,_:=fun o=>l8 L x.t i (w.alloc o) (T o) hI;rw[iP hl2]at l2;have l3:∀o,_:=fun o=>l7 L x.t k (w.alloc o) (T o) hI;rw[jh hl3]at l3;clear h hI T;go_enter func38,ntmps38;go_wp2_with (first|(go_at_call 76;refine(l0 _).mono ?_;rintro e w1 ⟨rfl,hw1⟩;subst hw1)|(go_at_call 79;refine(l2 _).mono ?_;rintro e w1 ⟨rfl,hw1⟩;subst hw1)|(go_at_call 80;refine(l3 _).mono ?_;rintro e w1 ⟨rfl,hw1⟩;subst hw1)|(refine bK _ rfl 101 (.tmp 8) (.tmp 35) rfl w.heap.size (cellV nG) (cellV nG) rfl _ rfl rfl 101 (bV _ _) rfl g_ (jW nG) ?_));intro u2 g2 k2 z2;go_wp2_with fail;exact bX (bf results38 _ _ w.heap.size (cellV nG) 101 (0,0) underlying101 g_ rfl g2) rfl ⟨rfl,((Ch.refl _ _).alloc _).trans' k2 (fun k hk e=>by omega)⟩
theorem aao(fb:Nat)(L:Lay)(x:akA)(n i k:Int)(hn:¬((0≤n∧n<2)∧(0≤i∧i<(x.t.rows:Int))∧(0≤k∧k<(x.t.ah:Int))))(w:World)(h:Cm w fb L x)(hI:x.t.Inv):Calls prog 38 #[.pointer (some ⟨fb,0,none⟩),.int .i64 n,.int .i64 i,.int .i64 k] w fun e w'=>e= .returned (.tuple #[.agg (dw nG),.int .i64 2])∧Sm w w':=by
 by_cases h1:0≤n∧n<2
 ·by_cases h2:0≤i∧i<(x.t.rows:Int)
  ·exact aaa fb L x n i k h1 h2 (fun h3=>hn ⟨h1,h2,h3⟩) w h hI
  ·exact X3 fb L x n i k h1 h2 w h hI
 ·exact X0 fb L x n i k h1 w h hI
theorem aco(fb:Nat)(L:Lay)(x:akA)(k:Int)(hk:¬(0≤k∧k<(x.t.ah:Int)))(w:World)(h:Cm w fb L x)(hI:x.t.Inv):Calls prog 39 #[.pointer (some ⟨fb,0,none⟩),.int .i64 k] w fun e w'=>e= .returned (.tuple #[.bool false,.int .i64 2])∧w'=w:=by have hpt:=h.pt;have l3:=l7 L x.t k w h.te hI;rw[jh hk]at l3;clear h hI;go_enter func39,ntmps39;go_wp2_with (go_at_call 80;refine l3.mono ?_;rintro e w1 ⟨rfl,hw1⟩;have hw2:=hw1.symm;subst hw2);go_ret2;exact⟨rfl,rfl⟩
theorem JX(rows ah:Int)(w:World)(h:¬(1≤rows∧rows≤12∧1≤ah∧ah≤40)):Calls prog 47 #[.int .i64 rows,.int .i64 ah] w fun e w'=>e= .returned (.bool false)∧w'=w:=by
 by_cases d1:1≤rows
 case neg=>
  have d1':decide (1≤rows)=false:=by simp;omega
  go_enter func47,ntmps47;go_wp2_with fail;go_ret;exact⟨rfl,rfl⟩
 by_cases d2:rows≤12
 case neg=>
  have d2':decide (rows≤12)=false:=by simp;omega
  go_enter func47,ntmps47;go_wp2_with fail;go_ret;exact⟨rfl,rfl⟩
 by_cases d3:1≤ah
 case neg=>
  have d3':decide (1≤ah)=false:=by simp;omega
  go_enter func47,ntmps47;go_wp2_with fail;go_ret;exact⟨rfl,rfl⟩
 have d4:decide (ah≤40)=false:=by simp;omega
 go_enter func47,ntmps47;go_wp2_with fail;go_ret;exact⟨rfl,rfl⟩
theorem Vd(rows ah:Int)(w:World)(h:¬(1≤rows∧rows≤12∧1≤ah∧ah≤40)):Calls prog 22 #[.int .i64 rows,.int .i64 ah] w fun e w'=>e= .returned (.tuple #[.pointer none,.int .i64 1])∧w'=w:=by have l0:=JX rows ah w h;clear h;go_enter func22,ntmps22;go_wp2_with (go_at_call 47;refine l0.mono ?_;rintro e w1 ⟨rfl,hw1⟩;have hw2:=hw1.symm;subst hw2);go_ret2;exact⟨rfl,rfl⟩
theorem Ca{o:Oper}{l:List Value}{d:Nat}{v:Value}(hd:o.dst=some d)(hy:(Region.wanted o (yielded ops l.toArray)=true∧(execOp (Act.eval ⟨l.toArray,ds⟩) o).run prog w= .ok (.value v) w)∨(Region.wanted o (yielded ops l.toArray)=false∧v=undef))(h:wpList prog ops Q rest ⟨(l.set d v).toArray,ds⟩ w):wpList prog ops Q (o::rest) ⟨l.toArray,ds⟩ w:=by
 have hp:(⟨l.toArray,ds⟩:Act).put o.dst v=⟨(l.set d v).toArray,ds⟩:=by rw[hd];simp[Act.put]
 rw[←hp]at h;unfold wpList;rcases hy with⟨hw,hv⟩|⟨hw,rfl⟩
 ·rw[ak (by exact hw)];left;simp only[Oper.wp,hv,Oper.upon];exact h
 ·rw[ai (by rw[hw];decide)];exact h
theorem ac6{o:Oper}{l:List Value}{S:World→Prop}{d:Nat}{v:Value}(hd:o.dst=some d)(hy:YieldsIf prog ops S o v ⟨l.toArray,ds⟩)(hS:S w)(h:wpList prog ops Q rest ⟨(l.set d v).toArray,ds⟩ w):wpList prog ops Q (o::rest) ⟨l.toArray,ds⟩ w:=
 Ca hd (hy.imp (fun k=>⟨k.1,k.2 w hS⟩) id) h
theorem AV(v0 v1:Value)(fed:ByteArray)(done:Nat)(d:DT)(i:Int)(hl:d.tb.length=40):(rP v0 v1 fed done d).set 87 (.int .i64 i)=rP v0 v1 fed done {d with ids:=i}:=by
 have h:rP v0 v1 fed done d=(([.int .i64 (d.t.rows:Int),.int .i64 (d.t.ah:Int),.string fed,.int .i64 (done:Int)]++(xM d.t++(aT v0 d.t.v0++aT v1 d.t.v1)))++d.tb.map Value.bool)++[.int .i64 d.ids]:=by simp[rP]
 have h':rP v0 v1 fed done {d with ids:=i}=(([.int .i64 (d.t.rows:Int),.int .i64 (d.t.ah:Int),.string fed,.int .i64 (done:Int)]++(xM d.t++(aT v0 d.t.v0++aT v1 d.t.v1)))++d.tb.map Value.bool)++[.int .i64 i]:=by simp[rP]
 rw[h,h',CX _ _ (by simp[xM,aB,aT,hl]),show 87-((([Value.int .i64 (d.t.rows:Int),.int .i64 (d.t.ah:Int),.string fed,.int .i64 (done:Int)]++(xM d.t++(aT v0 d.t.v0++aT v1 d.t.v1)))++d.tb.map Value.bool)).length=0 by simp[xM,aB,aT,hl]];rfl
theorem bR.VW{tb:Nat}{v0 v1:Value}{fed:ByteArray}{done:Nat}(h:bR w tb v0 v1 fed done d)(hl:d.tb.length=40):w.cell? ⟨tb,87,none⟩=some (.int .i64 d.ids):=by refine h.c 87 _ ?_;rw[←AV v0 v1 fed done d d.ids hl,List.getElem?_set_self (by rw[Aq hl];decide)]
theorem Hr(h:d.Ok):({d with t:={d.t with waits:=false,col:=0}}:DT).Ok:=by
 have hu:({d with t:={d.t with waits:=false,col:=0}}:DT).abs=d.abs.aF.bQ 0:=by
  unfold TS.bQ TS.bg;have hc:=h.inv.c1;have e2:d.abs.ah=d.t.ah:=rfl;have v:max 0 (min 0 ((d.t.ah:Int)-1))=0:=by omega
  show({d.abs with waits:=false,col:=0}:TS)= {d.abs with waits:=false,col:=max 0 (min 0 ((d.t.ah:Int)-1))};rw[v]
 refine h.Ij ?_ ?_ rfl rfl rfl rfl rfl
 ·rw[hu];exact h.inv.aF.bQ 0
 ·rw[hu];exact h.fit.aF.bQ rfl 0
theorem Qm(d:DT):d.down.ids=d.ids:=by
 unfold DT.down;split
 ·unfold DT.fI;rw[(d.sD _).2.2]
 ·split<;>rfl
theorem Ht(d:DT):d.pO.ids=d.ids:=by unfold DT.pO;rw[Qm]
theorem YD(h:d.Ok){i:Int}(hi:d.ids≤i):({d with ids:=i}:DT).Ok:=⟨h.inv,h.fit,h.r0.mono hi,h.r1.mono hi,Int.le_trans h.I7 hi,h.tl⟩
theorem Vi(d:DT)(i:Int)(r:bY):({d with ids:=i}:DT).put r= {d.put r with ids:=i}:=by unfold DT.put DT.setCur DT.cur;split<;>rfl
theorem Rp(d:DT)(r:bY):({d.put r with ids:=d.ids}:DT)=d.put r:=by unfold DT.put DT.setCur;split<;>rfl
theorem VE{o:Oper}{l:List Value}(dn:Nat)(x y:Operand)(ho:o.op= .buildSlice 172 2 #[(0,x),(1,y)])(hd:o.dst=some dn)(c e:DC)(hx:Act.eval ⟨l.toArray,ds⟩ x= .agg (Dr c))(hy:Act.eval ⟨l.toArray,ds⟩ y= .agg (Dr e))(h:K ⟨(l.set dn (.slice (some ⟨u.heap.size,0,none⟩) 2 2)).toArray,ds⟩ (u.alloc (.cells (pz [c,e]).toArray 177))):Oper.wp prog o ⟨l.toArray,ds⟩ u K Q:=by
 have hr:(Instr.buildSlice 172 2 #[(0,.agg (Dr c)),(1,.agg (Dr e))]).run prog u= .ok (.slice (some ⟨u.heap.size,0,none⟩) 2 2) (u.alloc (.cells (pz [c,e]).toArray 177)):=by kernel_rfl
 have hp:(⟨l.toArray,ds⟩:Act).put o.dst (.slice (some ⟨u.heap.size,0,none⟩) 2 2)=⟨(l.set dn (.slice (some ⟨u.heap.size,0,none⟩) 2 2)).toArray,ds⟩:=by rw[hd];simp[Act.put]
 rw[←hp]at h;unfold Oper.wp execOp;have hm:(#[(0,x),(1,y)].map fun(i,x)=>(i,Act.eval ⟨l.toArray,ds⟩ x))= #[(0,.agg (Dr c)),(1,.agg (Dr e))]:=by simp[hx,hy]
 simp only[ho,hm,jV,hr,jU,mK];exact h
theorem dF.new(u:World)(r:bY)(hl:0<r.length):dF (u.alloc (.cells (pz r).toArray 177)) 0 (.slice (some ⟨u.heap.size,0,none⟩) r.length r.length) r:=by
 have g:(u.alloc (.cells (pz r).toArray 177)).heap[u.heap.size]? =some (.cells (pz r).toArray 177 (0,0)):=bV _ _;refine⟨_,_,rfl,bN _,fun j c hj=>⟨u.heap.size,0,rfl,⟨dx _,_,_,g,?_⟩,aK g,fun i v hv=>?_⟩⟩
 ·obtain⟨c0,hc0⟩:∃c0,r[0]? =some c0:=⟨_,eG hl⟩;have e1:=vO r 0 c0 hc0 1 (by omega);refine⟨c0.1.p.b,?_⟩;have e2:(tF c0)[1]? =some (.bool c0.1.p.b):=rfl;rw[e2]at e1;simpa using e1
 rw[bG _ _ _ _ _ _ g,lH];have hi:i<8:=by have:=(gJ.1 hv).1;rw[vL]at this;exact this
 have e:=vO r j c hj i hi;rw[hv]at e;simpa using e
theorem dF.acH(u:World)(c:DC):dF (u.alloc (.cells (Dr c) 177)) 0 (.slice (some ⟨u.heap.size,0,none⟩) 1 1) [c]:=by have h:=dF.new u [c] (by simp);rw[show pz [c]=tF c by simp[pz]]at h;exact h
end Go.Proofs.YtheibfffilomcaaGreatDoor
