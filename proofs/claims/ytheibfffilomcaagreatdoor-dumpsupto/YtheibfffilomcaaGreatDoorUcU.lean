import Derived.Test.YtheibfffilomcaaGreatDoorTmaU
import Derived.Test.YtheibfffilomcaaGreatDoorZdU
import Derived.Test.YtheibfffilomcaaGreatDoorWdU
set_option linter.all false
set_option maxRecDepth 100000
namespace Go.Proofs.YtheibfffilomcaaGreatDoor
open Go.RowKit Go.Proofs.Tryz
variable {a n b:Nat} {N:Int} {P M Q r:List aI}
theorem aeI(p q:fO)(w:World):(binOp .eql 80 (.agg (aW p)) (.agg (aW q))).run prog w= .ok (.bool (decide (p=q))) w:=by rw[run_eql_struct,eqP 9998];rfl
theorem Yn(op:BinOp)(x y:Operand)(xs ys:Array Value)(w:World):(eqGuard op 80 x y (.agg xs) (.agg ys)).run prog w= .ok () w:=run_eqGuard_agg w op 80 x y xs ys (by kernel_rfl)
theorem BU{o:Oper}{a:Act}(x y:Operand)(ho:o.op= .binOp .eql 80 x y 80)(c d:fO)(hx:a.eval x= .agg (aW c))(hy:a.eval y= .agg (aW d))(w:World):(execOp a.eval o).run prog w= .ok (.value (.bool (decide (c=d)))) w:=by unfold execOp;simp only[ho,hx,hy,jV,Yn,aeI,jU,mK]
theorem nV{w:World}{g:Nat}{cs:List Value}{t:TypeId}(h:w.heap[g]? =some (.cells cs.toArray t (0,0)))(j:Nat)(vs:List Value)(hv:(cs.drop j).take vs.length=vs):w.rangeAt g j vs:=fun i v hi=>by
 rw[bG _ _ _ _ _ _ h];rw[←hv,mJ]at hi;split at hi
 ·rw[rf]at hi;simpa using hi
 ·cases hi
theorem Y7(w:World)(wb tb:Nat)(p v:Value)(q r:fO)(h:w.heap[wb]? =some (.cells (FY tb p v q).toArray 133 (0,0))):
 (w.setCells wb 3 (dG r)).heap[wb]? =some (.cells (FY tb p v r).toArray 133 (0,0))∧Ch (· =wb) w (w.setCells wb 3 (dG r)):=by
 have hz:=size_setCells wb (dG r) 3 w;refine⟨?_,⟨hz.2.1,hz.2.2.1,hz.2.2.2,by omega,fun i _ hn=>iR wb _ _ _ i hn⟩⟩;rw[nO h (by show 3+5≤8;omega)];rfl
theorem IZ{ops:Array Oper}{rest:List Oper}{o:Oper}{a:Act}{u:World}{Q:Exit→Act→World→Prop}(hgd:o.guard=none)(x y:Operand)(ho:o.op= .store 80 x y)(hd:o.dst=none)(wb tb:Nat)(p v:Value)(q r:fO)(hx:a.eval x= .pointer (some ⟨wb,3,none⟩))(hy:a.eval y= .agg (aW r))(h:u.heap[wb]? =some (.cells (FY tb p v q).toArray 133 (0,0)))(hK:∀u',u'.heap[wb]? =some (.cells (FY tb p v r).toArray 133 (0,0))→Ch (· =wb) u u'→wpList prog ops Q rest a u'):wpList prog ops Q (o::rest) a u:=by
 obtain⟨g1,k1⟩:=Y7 u wb tb p v q r h;refine oq hgd fun K hK2=>?_
 refine wp_store_mid 80 x y ho wb 3 (aW r) hx hy (by simpa[aW,dG]using vI h (n:=5) (o:=3) (by show 3+5≤8;omega)) (by simpa[aW,dG]using lU) (all_oneCell_toArray (by
  intro z hz;simp only[dG,kK,pX,pY]at hz
  rcases hz with rfl|rfl|rfl|rfl|rfl<;>rfl)) ?_
 rw[hd];exact hK2 _ _ (hK _ (by simpa[aW]using g1) (by simpa[aW]using k1))
theorem yQ(wb tb:Nat)(x:WS)(p:fO)(hp:p.Ok)(w:World)(h:iK w wb tb x)(hx:x.tx.length≤700000000):
 Calls prog 209 #[.pointer (some ⟨wb,0,none⟩),.agg (aW p)] w fun e w'=>e= .returned (.tuple #[])∧iK w' wb tb (x.turn p)∧Wk wb w w':=by
 obtain⟨pa,v,h1,h2,h3⟩:=h.ex;have hlt:=aK h1;have TL:Hid (wb<w.heap.size):=hlt;obtain⟨W,hW⟩:∃W,W=w.alloc (.cells (aW p) 80):=⟨_,rfl⟩;have GW:W.heap[w.heap.size]? =some (.cells (dG p).toArray 80 (0,0)):=by rw[hW];exact bV _ _
 have GB:W.heap[wb]? =some (.cells (FY tb pa v x.pen).toArray 133 (0,0)):=by rw[hW];exact(gK _ _ _ hlt).trans h1
 have BW:Below w.heap.size w W:=by rw[hW];exact(dU _ _).alloc (bN _) _
 have H8:Hid (∀i∈x.tx,0≤i∧i<256):=h.Xx;have Tv:Hid (lD W (wb+1) v x.tx):=h3.keep (fun k _ hk=>BW.block k hk);have HP:Hid _:=h2;have VK:Hid _:=GB;have F9:Hid _:=GW;have SV:Hid _:=BW;have HW:Hid _:=hW;have hsW:W.heap.size=w.heap.size+1:=by rw[hW];simp
 clear h h1 h2 h3 hW;have HH:World.rangeAt ({W with drawn:=W.drawn+1}:World) w.heap.size 0 (dG p)∧World.rangeAt ({W with drawn:=W.drawn+1}:World) wb 3 (dG x.pen):=⟨nV (w:=({W with drawn:=W.drawn+1}:World)) GW 0 _ rfl,nV (w:=({W with drawn:=W.drawn+1}:World)) GB 3 _ rfl⟩;clear GW GB BW;go_enter func209,ntmps209;go_wp2_with fail;rw[←HW.o];refine dX (S:=fun y=>y.rangeAt w.heap.size 0 (dG p)∧y.rangeAt wb 3 (dG x.pen)) aX ?_;refine aj 0 HH ?_ (v:=.agg (aW p)) (hy:=(kz (by rfl) 80 (.tmp 3) rfl w.heap.size 0 rfl (dG p) _ (fun y h=>h.1) underlying80 rfl lU));refine dH 1 2 3 HH ?_;simp only[ag,af];refine aj 4 HH ?_ (v:=.agg (aW x.pen)) (hy:=(kz (by rfl) 80 (.tmp 7) rfl wb 3 rfl (dG x.pen) _ (fun y h=>h.2) underlying80 rfl lU));simp only[ag,af];refine aj 5 HH ?_ (v:=.bool (decide (p=x.pen))) (hy:=(Or.inl ⟨by rfl,fun y _=>BU (.tmp 4) (.tmp 8) rfl p x.pen rfl rfl y⟩));simp only[ag,af];refine aC ?_;clear HH;by_cases he:p=x.pen
 ·have e:x.turn p=x:=by unfold WS.turn;rw[ak he]
  have HE:Hid _:=e;rw[iP he];clear e he;go_wp2_with fail;refine bX (dz rfl _ _ _) rfl ?_;refine⟨rfl,?_,⟨⟨SV.o.os,SV.o.tape,SV.o.output,SV.o.size,fun k hk=>SV.o.block k (by omega)⟩,fun k hk _ _=>SV.o.block k hk⟩⟩;rw[HE.o];exact⟨⟨pa,v,VK.o,HP.o,Tv.o⟩,H8.o⟩
 ·have e:x.turn p=(⟨x.tx,p⟩:WS).seq (48::(oD p++[109])):=by unfold WS.turn;rw[ai he]
  have HE:Hid _:=e;rw[jh he];clear e he;go_wp2_with (first|(refine fC rfl 80 (.tmp 3) rfl w.heap.size rfl 80 _ (0,0) _ F9.o underlying80 rfl lU ?_)|(refine IZ rfl (.tmp 13) (.tmp 11) rfl rfl wb tb pa v x.pen p rfl rfl VK.o ?_));intro u4 g4 k4;have k4s:W.heap.size≤u4.heap.size:=k4.size;have g5:u4.heap[w.heap.size]? =some (.cells (dG p).toArray 80 (0,0)):=(k4.block _ (aK F9.o) (by omega)).trans F9.o;have W4:iK u4 wb tb ⟨x.tx,p⟩:=⟨⟨pa,v,g4,HP.o,Tv.o.keep (fun k hk hk2=>k4.block k hk2 (by omega))⟩,H8.o⟩;have B4:Wk wb w u4:=(Wk.of_below SV.o (kW hlt)).trans ⟨⟨k4.os,k4.tape,k4.output,k4.size,fun k hk=>k4.block k (by show k<W.heap.size;omega) (by omega)⟩,fun k hk hn _=>k4.block k hk hn⟩;have HW4:Hid _:=W4;have Ja:Hid _:=B4;clear W4 B4 g4 k4;go_wp2_with (refine fC rfl 80 (.tmp 3) rfl w.heap.size rfl 80 _ (0,0) _ g5 underlying80 rfl lU ?_);refine(UZ p hp u4).mono ?_;rintro e w5 ⟨rfl,b5⟩;have zi:=Nn p;have l6:=gT wb tb ⟨x.tx,p⟩ (({data:=#[48]}:ByteArray)++G7 p++{data:=#[109]}) w5 (HW4.o.keep b5) (by show x.tx.length≤_;omega) (by rw[iC,iC];show 1+(G7 p).size+1≤_;omega);have e6:bl (({data:=#[48]}:ByteArray)++G7 p++{data:=#[109]})=48::(oD p++[109]):=by rw[aL,aL,L_ hp,show bl ({data:=#[48]}:ByteArray)=[48] by kernel_rfl,show bl ({data:=#[109]}:ByteArray)=[109] by kernel_rfl];simp
  rw[e6]at l6;have Jb:Hid (Wk wb w w5):=Ja.o.trans (Wk.of_below b5 (by omega));clear e6 b5 g5;generalize G7 p=D at*;go_wp2_with fail;refine l6.mono ?_;rintro e w7 ⟨rfl,h7,b7⟩;go_wp2_with fail;go_end0;refine⟨rfl,?_,Jb.o.trans b7⟩;rw[HE.o];exact h7
theorem qV(x:WS)(p:fO):(x.turn p).tx.length≤x.tx.length+20:=by
 unfold WS.turn;split
 ·omega
 ·have:=Dz p;show(x.tx++([27,91]++(48::(oD p++[109])))).length≤_;simp only[fU,fE,eP];omega
theorem yg(x:WS)(c:aI):(x.cell c).tx.length≤x.tx.length+24:=by
 unfold WS.cell;split
 ·omega
 ·have:=qV x c.p;have:=IQ c.r;show((x.turn c.p).tx++oP c.r).length≤_;rw[fU];omega
theorem mG(x:WS)(r c:Int):(x.place r c).tx.length≤x.tx.length+8:=by have h1:=o_ (r+1);have h2:=o_ (c+1);show(x.tx++([27,91]++((jB (r+1)++(59::jB (c+1)))++[72]))).length≤_;simp only[fU,fE,eP];omega
theorem N7(r:Int)(h:zh r):IntKind.i32.wrap r=r:=IntWalk.i32_in _ (by obtain⟨h0,h1,_⟩:=h;omega)
theorem Au(wb tb:Nat)(x:WS)(c:aI)(hc:c.part=2∨c.Ok)(w:World)(h:iK w wb tb x)(hx:x.tx.length≤600000000):
 Calls prog 231 #[.pointer (some ⟨wb,0,none⟩),.agg (dw c)] w fun e w'=>e= .returned (.tuple #[])∧iK w' wb tb (x.cell c)∧Wk wb w w':=by
 have hlt:=h.lt;have TL:Hid (wb<w.heap.size):=hlt;obtain⟨W,hW⟩:∃W,W=w.alloc (.cells (dw c) 101):=⟨_,rfl⟩;have GW:W.heap[w.heap.size]? =some (.cells (cellV c).toArray 101 (0,0)):=by rw[hW];exact bV _ _
 have BW:Below w.heap.size w W:=by rw[hW];exact(dU _ _).alloc (bN _) _
 have c6:(w.alloc (.cells (dw c) 101)).cell? ⟨w.heap.size,6,none⟩=some (.int .i64 c.part):=(bG _ _ _ _ _ _ (bV w _)).trans rfl;have Zc:Hid (iK W wb tb x):=h.keep BW;have F9:Hid _:=GW;have SV:Hid _:=BW;have HW:Hid _:=hW;have hsW:W.heap.size=w.heap.size+1:=by rw[hW];simp
 have HR:Hid (W.rangeAt w.heap.size 1 (dG c.p)):=nV GW 1 _ rfl;clear h hW GW BW;by_cases hp:c.part=2
 ·have e:x.cell c=x:=by unfold WS.cell;rw[ak hp]
  have HE:Hid _:=e;have hp':(c.part==2)=true:=by simpa using hp
  clear e hp;go_enter func231,ntmps231;go_wp2_with fail;rw[←HW.o];refine bX (dz rfl _ _ _) rfl ?_;refine⟨rfl,?_,Wk.of_below SV.o (kW TL.o)⟩;rw[HE.o];exact Zc.o
 ·have e:x.cell c=(x.turn c.p).put (oP c.r):=by unfold WS.cell;rw[ai hp]
  have HE:Hid _:=e;have hp':(c.part==2)=false:=by simpa using hp
  have hok:c.Ok:=hc.resolve_left hp;clear e hp hc;have l1:=yQ wb tb x c.p hok.2 W Zc.o (by omega);have vr:=N7 c.r hok.1;go_enter func231,ntmps231;rw[HW.o]at l1 HR;go_wp2_with (refine nN rfl 80 (.tmp 8) rfl w.heap.size 1 rfl (dG c.p) _ HR.o underlying80 rfl lU ?_);refine l1.mono ?_;rintro e w2 ⟨rfl,h2,b2⟩;rw[←HW.o]at b2;have g2:w2.heap[w.heap.size]? =some (.cells (cellV c).toArray 101 (0,0)):=b2.at F9.o (by omega) (by decide);have HG2:Hid _:=g2;have c0:w2.cell? ⟨w.heap.size,0,none⟩=some (.int .i64 c.r):=(bG _ _ _ _ _ _ g2).trans rfl;have HWK:Hid (Wk wb w w2):=(Wk.of_below SV.o (kW hlt)).trans b2;have htl:=qV x c.p;have HH:World.cell? ({w2 with drawn:=w2.drawn+1}:World) ⟨w.heap.size,0,none⟩=some (.int .i64 c.r):=c0;have l3:=CS wb tb (x.turn c.p) c.r hok.1 ({w2 with drawn:=w2.drawn+1}:World) ⟨h2.ex,h2.Xx⟩ (by omega);clear g2 b2 h2;go_wp2_with fail;refine dX (S:=fun y=>y.cell? ⟨w.heap.size,0,none⟩=some (.int .i64 c.r)) aX ?_;refine ay 0 1 2 3 HH ?_;simp only[ag,af];refine aj 4 HH ?_;refine aj 5 HH ?_ (v:=.int .i32 c.r);simp only[ag,af];refine av 6 ?_
  refine vG (f:=241) 17 [.tmp 13,.tmp 16] #[131,21] rfl rfl [.pointer (some ⟨wb,1,none⟩),.int .i32 c.r] rfl (by kernel_rfl) (fun v w'=>iK w' wb tb ((x.turn c.p).put (oP c.r))∧Wk wb ({w2 with drawn:=w2.drawn+1}:World) w') (l3.mono fun e w' h=>by
   obtain⟨⟨v,hv⟩,h1,h2⟩:=h
   exact⟨v,hv,h1,h2⟩) ?_
  rintro v4 w4 ⟨h4,k4⟩;have g4:w4.heap[w.heap.size]? =some (.cells (cellV c).toArray 101 (0,0)):=k4.at HG2.o (by omega) (by decide);refine⟨(bG _ _ _ _ _ _ g4).trans rfl,?_⟩;refine aC ?_;have HF:Hid (iK w4 wb tb ((x.turn c.p).put (oP c.r))∧Wk wb w w4):=⟨h4,HWK.o.trans ⟨⟨k4.b.os,k4.b.tape,k4.b.output,k4.b.size,k4.b.block⟩,k4.n⟩⟩;clear h4 k4 g4 l3 HH;go_wp2_with fail;go_end0;exact⟨rfl,by rw[HE.o];exact HF.o.1,HF.o.2⟩
theorem r9(S:bS)(a:Nat)(r:List aI)(j:Nat):(S.set a r).getD j []=if j=a∧a<S.length then r else S.getD j []:=by
 simp only[List.getD,xX];by_cases h:a=j
 ·subst h;by_cases h2:a<S.length
  ·simp[h2]
  ·simp[h2]
 ·rw[ai h,ai (by omega)]
theorem IP(S:bS)(a n:Nat):∀i,a+i+n≤S.length→∀j,(nX S a n i).getD j []=if a≤j∧j<a+i then S.getD (j+n) []else S.getD j []:=by
 intro i;induction i with
 |zero=>intro _ j;rw[ai (by omega)];rfl
 |succ i ih=>
  intro hi j;rw[nX,r9,jO,ih (by omega),ih (by omega)];by_cases h:j=a+i
  ·subst h;rw[ak ⟨rfl,by omega⟩,ai (by omega),ak (by omega)]
  ·rw[ai (by omega)];by_cases h2:a≤j∧j<a+i
   ·rw[ak h2,ak (by omega)]
   ·rw[ai h2,ai (by omega)]
theorem lK(S:bS)(a ah:Nat):∀i,a+i≤S.length→∀j,(cK S a ah i).getD j []=if a≤j∧j<a+i then iY ah else S.getD j []:=by
 intro i;induction i with
 |zero=>intro _ j;rw[ai (by omega)];rfl
 |succ i ih=>
  intro hi j;rw[cK,r9,fB,ih (by omega)];by_cases h:j=a+i
  ·subst h;rw[ak ⟨rfl,by omega⟩,ak (by omega)]
  ·rw[ai (by omega)];by_cases h2:a≤j∧j<a+i
   ·rw[ak h2,ak (by omega)]
   ·rw[ai h2,ai (by omega)]
theorem zM{S T:bS}(hl:S.length=T.length)(h:∀j,j<S.length→S.getD j []=T.getD j []):S=T:=by apply List.ext_getElem hl;intro j h1 h2;have:=h j h1;simpa[List.getD,eG h1,eG h2]using this
abbrev DC:=aI × Int
abbrev bY:=List DC
def aM:DC:=(aD,0)
def strip (r:bY):List aI:=r.map (·.1)
theorem fG(a b:bY):strip (a++b)=strip a++strip b:=List.map_append
theorem aU(a:bY):(strip a).length=a.length:=List.length_map _
def A_ (prev:Option DC) (c:DC) (next:Option DC):Prop:=
 (c.1.part=1∧(∀x,next=some x→x.2≠c.2))∨(c.1.part=2∧(∀x,prev=some x→x.2≠c.2))
instance (prev:Option DC) (c:DC) (next:Option DC):Decidable (A_ prev c next):=by unfold A_;cases prev<;>cases next<;>simp<;>infer_instance
def nT (prev:Option DC) (c:DC) (next:Option DC):DC:=if A_ prev c next then aM else c
def mend (prev:Option DC):bY→bY
 | []=>[]
 |c::r=>nT prev c r.head?::mend (some c) r
inductive gF:bY→Prop
 |nil:gF []
 |one (c:aI) (r:bY) (hp:c.part=0) (h:gF r):gF ((c,0)::r)
 |two (c:aI) (i:Int) (r:bY) (hp:c.part=1) (h:gF r):gF ((c,i)::(jQ c,i)::r)
theorem gF.append{a b:bY}(h:gF a)(k:gF b):gF (a++b):=by
 induction h with
 |nil=>exact k
 |one c r hp _ ih=>exact .one c _ hp ih
 |two c i r hp _ ih=>exact .two c i _ hp ih
theorem gF.blank(n:Nat):gF (List.replicate n aM):=by
 induction n with
 |zero=>exact .nil
 |succ n ih=>exact .one _ _ rfl ih
def mR (prev:Option DC) (x:bY):Option DC:=(x.getLast?).or prev
theorem xB(p:Option DC)(c:DC)(x:bY):mR p (c::x)=mR (some c) x:=by
 cases x with
 |nil=>rfl
 |cons d x=>simp[mR,List.getLast?_cons_cons];cases h:(d::x).getLast?<;>simp_all
theorem Nv{c:DC}(h:c.1.part=0)(p n:Option DC):nT p c n=c:=by unfold nT;rw[ai];rintro(⟨h1,_⟩|⟨h1,_⟩)<;>omega
theorem J6{c:DC}(h:c.1.part=1)(p:Option DC)(x:DC)(hx:x.2=c.2):nT p c (some x)=c:=by
 unfold nT;rw[ai];rintro(⟨h1,h2⟩|⟨h1,_⟩)
 ·exact h2 x rfl hx
 ·omega
theorem J7{c:DC}(h:c.1.part=2)(n:Option DC)(x:DC)(hx:x.2=c.2):nT (some x) c n=c:=by
 unfold nT;rw[ai];rintro(⟨h1,h2⟩|⟨h1,h2⟩)
 ·omega
 ·exact h2 x rfl hx
theorem U9{c:DC}(h:c.1.part=1)(p n:Option DC)(hn:∀x,n=some x→x.2≠c.2):nT p c n=aM:=by unfold nT;rw[ak (.inl ⟨h,hn⟩)]
theorem U_{c:DC}(h:c.1.part=2)(p n:Option DC)(hn:∀x,p=some x→x.2≠c.2):nT p c n=aM:=by unfold nT;rw[ak (.inr ⟨h,hn⟩)]
theorem nu{a:bY}(h:gF a)(rest:bY):∀p,mend p (a++rest)=a++mend (mR p a) rest:=by
 induction h with
 |nil=>intro p;rfl
 |one c r hp _ ih=>intro p;rw[xV,mend,Nv hp,ih,xB];rfl
 |two c i r hp _ ih=>intro p;rw[xV,mend,xV,mend,ih,xB,xB];rw[List.head?_cons,J6 (c:=(c,i)) hp _ (jQ c,i) rfl,J7 (c:=(jQ c,i)) rfl _ (c,i) rfl];rfl
abbrev ze:=Option DC
def kX:ze→bY
 |none=>[]
 |some c=>[c]
def m_:ze→bY
 |none=>[]
 |some c=>[(jQ c.1,c.2)]
def iU:ze→bY
 |none=>[]
 |some _=>[aM]
def Ag (L:ze):Prop:=∀c,L=some c→c.1.part=1
theorem rz(L:ze):gF (iU L):=by
 cases L with
 |none=>exact .nil
 |some c=>exact .one _ _ rfl .nil
theorem Nh{L:ze}(h:Ag L):gF (kX L++m_ L):=by
 cases L with
 |none=>exact .nil
 |some c=>exact .two c.1 c.2 [] (h c rfl) .nil
theorem Aw{L:ze}(hL:Ag L)(p:Option DC)(rest:bY)(hr:∀c,L=some c→∀x,rest.head?=some x→x.2≠c.2):mend p (kX L++rest)=iU L++mend (mR p (kX L)) rest:=by
 cases L with
 |none=>rfl
 |some c=>show nT p c rest.head?::_=_;rw[U9 (hL c rfl) _ _ (hr c rfl)];rfl
theorem EZ{L:ze}(p:Option DC)(rest:bY)(hr:∀c,L=some c→∀x,p=some x→x.2≠c.2):mend p (m_ L++rest)=iU L++mend (mR p (m_ L)) rest:=by
 cases L with
 |none=>rfl
 |some c=>show nT p _ rest.head?::_=_;rw[U_ (c:=(jQ c.1,c.2)) rfl _ _ (hr c rfl)];rfl
theorem gF.cut{r:bY}(h:gF r):∀a,a≤r.length→∃A L B,r=A++(kX L++(m_ L++B))∧(A++kX L).length=a∧gF A∧gF B∧Ag L:=by
 induction h with
 |nil=>intro a ha;exact⟨[],none,[],rfl,by simp at ha;simp[kX,ha],.nil,.nil,fun _ h=>by cases h⟩
 |one c r hp h ih=>
  intro a ha;cases a with
  |zero=>exact⟨[],none,_,rfl,rfl,.nil,.one c r hp h,fun _ h=>by cases h⟩
  |succ a=>obtain⟨A,L,B,h1,h2,h3,h4,h5⟩:=ih a (by simpa using ha);exact⟨(c,0)::A,L,B,by rw[h1];rfl,by simpa using h2,.one c _ hp h3,h4,h5⟩
 |two c i r hp h ih=>
  intro a ha
  match a,ha with
  | 0,_=>exact⟨[],none,_,rfl,rfl,.nil,.two c i r hp h,fun _ h=>by cases h⟩
  | 1,_=>exact⟨[],some (c,i),r,rfl,rfl,.nil,h,fun _ h=>by cases h;exact hp⟩
  |a+2,ha=>obtain⟨A,L,B,h1,h2,h3,h4,h5⟩:=ih a (by simp at ha;omega);exact⟨(c,i)::(jQ c,i)::A,L,B,by rw[h1];rfl,by simpa using h2,.two c i _ hp h3,h4,h5⟩
theorem gF.at0{r:bY}(h:gF r){x:DC}(hx:r[0]? =some x):x.1.part≠2:=by
 cases h with
 |nil=>simp at hx
 |one c r hp _=>simp at hx;subst hx;simp[hp]
 |two c i r hp _=>simp at hx;subst hx;simp[hp]
theorem vX{A B:bY}{L:ze}(hB:gF B)(ha:(A++kX L).length=a):aJ (strip (A++(kX L++(m_ L++B)))) a=strip (A++(iU L++(iU L++B))):=by
 cases L with
 |none=>
  simp only[kX,m_,iU,mP,gp]at ha ⊢;apply sG;intro x hx;rw[fG,og (by rw[aU];omega),aU, ←ha,Nat.sub_self]at hx;unfold strip at hx;rw[pW]at hx;cases hB0:B[0]? with
  |none=>rw[hB0]at hx;simp at hx
  |some y=>rw[hB0]at hx;simp at hx;subst hx;exact hB.at0 hB0
 |some c=>simp only[kX,m_,iU,xV,mP,fU,fE,eP]at ha ⊢;have:=vW (strip A) c.1 (strip B);rw[aU,ha]at this;simp only[strip,List.map_append,List.map_cons];exact this
theorem gF.aeE{r:bY}(h:gF r)(hab:a<b)(hb:b≤r.length):∃A L M R B,r=A++(kX L++(m_ L++(M++(kX R++(m_ R++B)))))∧(A++kX L).length=a∧(A++(kX L++(m_ L++(M++kX R)))).length=b∧gF A∧gF M∧gF B∧Ag L∧Ag R∧
 aJ (aJ (strip r) a) b=strip (A++(iU L++(iU L++(M++(iU R++(iU R++B)))))):=by
 obtain⟨A,L,Q,rfl,h2,h3,h4,h5⟩:=h.cut a (by omega);have hl:(A++(kX L++(m_ L++Q))).length=(A++kX L).length+(m_ L).length+Q.length:=by simp only[fU];omega
 have ht:(m_ L).length≤1:=by cases L<;>simp[m_]
 obtain⟨M,R,B,rfl,k2,k3,k4,k5⟩:=h4.cut (b-(a+(m_ L).length)) (by omega);have hbb:(A++(kX L++(m_ L++(M++kX R)))).length=b:=by simp only[fU]at h2 k2 ⊢;omega
 refine⟨A,L,M,R,B,rfl,h2,hbb,h3,k3,k4,h5,k5,?_⟩;rw[vX (k3.append (by rw[←f_];exact(Nh k5).append k4)) h2]
 have:=vX (A:=A++(iU L++(iU L++M))) (B:=B) (L:=R) (a:=b) k4 (by
  have e1:(iU L).length=(kX L).length:=by cases L<;>rfl
  have e2:(iU L).length=(m_ L).length:=by cases L<;>rfl
  simp only[fU]at hbb ⊢;omega)
 simpa only[f_]using this
def hid (c:DC):List Int:=if c.1.part=1 then[c.2]else[]
def dB (r:bY):List Int:=r.flatMap hid
theorem lN(a b:bY):dB (a++b)=dB a++dB b:=List.flatMap_append
theorem kQ(n:Nat):dB (List.replicate n aM)=[]:=by
 induction n with
 |zero=>rfl
 |succ n ih=>rw[AO];show hid aM++dB _=[];rw[ih];rfl
theorem tQ{L:ze}(h:Ag L):dB (kX L)=L.toList.map (·.2):=by
 cases L with
 |none=>rfl
 |some c=>show hid c++[]=[c.2];rw[hid,ak (h c rfl)];rfl
theorem Bu(L:ze):dB (m_ L)=[]:=by
 cases L with
 |none=>rfl
 |some c=>rfl
theorem xx(L:ze):dB (iU L)=[]:=by
 cases L with
 |none=>rfl
 |some c=>rfl
structure Ao (N:Int) (r:bY):Prop where
 g:gF r
 nd:(dB r).Nodup
 bd:∀i∈dB r,1≤i∧i≤N
theorem Ao.mono{M:Int}{r:bY}(h:Ao N r)(hm:N≤M):Ao M r:=⟨h.g,h.nd,fun i hi=>by have:=h.bd i hi;omega⟩
theorem Ao.blank(N:Int)(n:Nat):Ao N (List.replicate n aM):=⟨.blank n,by rw[kQ];exact List.nodup_nil,by rw[kQ];intro i hi;cases hi⟩
theorem gF.ids{r:bY}(h:gF r):∀x∈r,x.2=0∨x.2∈dB r:=by
 induction h with
 |nil=>intro x hx;cases hx
 |one c r hp _ ih=>
  intro x hx;rcases kK.1 hx with rfl|hx
  ·exact .inl rfl
  ·rcases ih x hx with k|k
   ·exact .inl k
   ·right;show _∈hid _++dB r;exact List.mem_append_right _ k
 |two c i r hp _ ih=>
  intro x hx;have e:dB ((c,i)::(jQ c,i)::r)=i::dB r:=by show hid (c,i)++(hid (jQ c,i)++dB r)=_;rw[hid,ak hp,hid,ai (by simp[jQ])];rfl
  rw[e];rcases kK.1 hx with rfl|hx
  ·right;simp
  ·rcases kK.1 hx with rfl|hx
   ·right;simp
   ·rcases ih x hx with k|k
    ·exact .inl k
    ·right;simp[k]
def over (r:bY) (a:Nat) (q:bY):bY:=mend none (r.take a++(q++r.drop (a+q.length)))
def pushed (r:bY) (a n:Nat):bY:=mend none ((r.take a++(List.replicate (min n (r.length-a)) aM++r.drop a)).take r.length)
def tY (r:bY) (a n:Nat):bY:=mend none (r.take a++(r.drop (a+min n (r.length-a))++List.replicate (min n (r.length-a)) aM))
theorem zy{p:Option DC}{x:bY}{y:DC}(h:mR p x=some y):y∈x∨(x=[]∧p=some y):=by
 cases x with
 |nil=>exact .inr ⟨rfl,h⟩
 |cons c x=>left;unfold mR at h;rw[List.getLast?_eq_some_getLast (by simp)]at h;simp at h;subst h;exact List.getLast_mem _
theorem head_mem{x:bY}{y:DC}(h:x.head?=some y):y∈x:=by
 cases x with
 |nil=>cases h
 |cons c x=>simp at h;subst h;simp
structure Cut (N:Int) (A:bY) (L:ze) (M:bY) (R:ze) (B:bY):Prop where
 gA:gF A
 gM:gF M
 gB:gF B
 hL:Ag L
 hR:Ag R
 nd:(dB A++(L.toList.map (·.2)++(dB M++(R.toList.map (·.2)++dB B)))).Nodup
 bd:∀i∈dB A++(L.toList.map (·.2)++(dB M++(R.toList.map (·.2)++dB B))),1≤i∧i≤N
theorem Ao.cut{r:bY}(h:Ao N r)(hab:a<b)(hb:b≤r.length):∃A L M R B,Cut N A L M R B∧r=A++(kX L++(m_ L++(M++(kX R++(m_ R++B)))))∧(A++kX L).length=a∧(A++(kX L++(m_ L++(M++kX R)))).length=b∧
 aJ (aJ (strip r) a) b=strip (A++(iU L++(iU L++(M++(iU R++(iU R++B)))))):=by
 obtain⟨A,L,M,R,B,rfl,h2,h3,gA,gM,gB,hL,hR,hs⟩:=h.g.aeE hab hb;refine⟨A,L,M,R,B,⟨gA,gM,gB,hL,hR,?_,?_⟩,rfl,h2,h3,hs⟩
 ·have:=h.nd;simpa only[lN,tQ hL,tQ hR,Bu,mP]using this
 ·have:=h.bd;simpa only[lN,tQ hL,tQ hR,Bu,mP]using this
theorem Cut.Uh{A:bY}{L:ze}{M:bY}{R:ze}{B:bY}(h:Cut N A L M R B){c:DC}(e:L=some c):1≤c.2∧c.2≤N:=h.bd _ (by subst e;simp)
theorem Cut.aaP{A:bY}{L:ze}{M:bY}{R:ze}{B:bY}(h:Cut N A L M R B){c:DC}(e:R=some c):1≤c.2∧c.2≤N:=h.bd _ (by subst e;simp)
theorem DL{A:bY}{L:ze}{M:bY}{R:ze}{B:bY}(h:Cut N A L M R B)(q:bY)(hq:gF q)(hne:q≠[])(hi:∀x∈q,x.2=0∨N<x.2)(hlen:q.length=(m_ L++(M++kX R)).length):
 over (A++(kX L++(m_ L++(M++(kX R++(m_ R++B)))))) (A++kX L).length q=A++(iU L++(q++(iU R++B))):=by
 unfold over;have e1:(A++(kX L++(m_ L++(M++(kX R++(m_ R++B)))))).take (A++kX L).length=A++kX L:=by rw[←f_];exact uu
 have e2:(A++(kX L++(m_ L++(M++(kX R++(m_ R++B)))))).drop ((A++kX L).length+q.length)=m_ R++B:=by
  have:A++(kX L++(m_ L++(M++(kX R++(m_ R++B)))))=(A++kX L++(m_ L++(M++kX R)))++(m_ R++B):=by simp
  rw[this,hlen, ←fU];exact List.drop_left
 rw[e1,e2,f_,nu h.gA];obtain⟨q0,q1,rfl⟩:∃q0 q1,q=q0::q1:=by
  cases q with
  |nil=>exact absurd rfl hne
  |cons a b=>exact⟨a,b,rfl⟩
 rw[Aw h.hL _ _ (fun c hc x hx=>by
  have:=h.Uh hc;simp at hx;subst hx
  rcases hi q0 (by simp)with k|k<;>omega)]
 rw[nu hq,EZ _ _ (fun c hc x hx=>by
  have:=h.aaP hc;rcases zy hx with k|⟨k,_⟩
  ·rcases hi x k with m|m<;>omega
  ·cases k)]
 have:=nu h.gB [] (mR (mR (mR (mR none A) (kX L)) (q0::q1)) (m_ R));rw[gp]at this;rw[this];simp[mend]
theorem E_{M':Int}{A:bY}{L:ze}{M:bY}{R:ze}{B:bY}(h:Cut N A L M R B)(q:bY)(hq:gF q)(hm:N≤M')(hnd:(dB q).Nodup)(hqi:∀i∈dB q,N<i∧i≤M')(hN:0≤N):Ao M' (A++(iU L++(q++(iU R++B)))):=by
 have e:dB (A++(iU L++(q++(iU R++B))))=dB A++(dB q++dB B):=by simp only[lN,xx,mP]
 have nd:=h.nd;have bd:=h.bd;simp only[List.nodup_append,nM]at nd bd;refine⟨h.gA.append ((rz L).append (hq.append ((rz R).append h.gB))),?_,?_⟩
 ·rw[e];simp only[List.nodup_append,nM];refine⟨nd.1,⟨hnd,nd.2.1.2.1.2.1.2.1,fun a ha b hb e=>?_⟩,fun a ha b hb=>?_⟩
  ·have:=hqi a ha;have:=bd b (by simp[hb]);omega
  ·rcases hb with hb|hb
   ·intro e;have:=hqi b hb;have:=bd a (by simp[ha]);omega
   ·exact nd.2.2 a ha b (by simp[hb])
 ·rw[e];intro i hi;simp only[nM]at hi;rcases hi with k|k|k
  ·have:=bd i (by simp[k]);omega
  ·have:=hqi i k;omega
  ·have:=bd i (by simp[k]);omega
theorem ku(n:Nat):strip (List.replicate n aM)=List.replicate n aD:=by simp[strip,aM]
theorem tX(hN:0≤N){r:bY}(h:Ao N r)(hab:a<b)(hb:b≤r.length):strip (over r a (List.replicate (b-a) aM))=dP (strip r) a b∧Ao N (over r a (List.replicate (b-a) aM)):=by
 obtain⟨A,L,M,R,B,hc,rfl,ha,hb',hs⟩:=h.cut hab hb;have hlen:(List.replicate (b-a) aM).length=(m_ L++(M++kX R)).length:=by simp only[fU,kJ]at ha hb' ⊢;omega
 have hne:List.replicate (b-a) aM≠[]:=by intro e;have:=congrArg List.length e;simp at this;omega
 have e:=DL hc _ (gF.blank (b-a)) hne (fun x hx=>by rw[AJ hx];exact .inl rfl) hlen;rw[ha]at e;rw[e];refine⟨?_,E_ hc _ (gF.blank _) (Int.le_refl _) (by rw[kQ];exact List.nodup_nil) (by rw[kQ];intro i hi;cases hi) hN⟩;unfold dP jv;rw[hs];have t1:(iU L).length=(kX L).length:=by cases L<;>rfl
 have t2:(iU L).length=(m_ L).length:=by cases L<;>rfl
 have t3:(iU R).length=(kX R).length:=by cases R<;>rfl
 have e1:(strip (A++(iU L++(iU L++(M++(iU R++(iU R++B))))))).take a=strip (A++iU L):=by rw[←f_,fG];exact List.take_left' (by rw[aU, ←ha];simp only[fU];omega)
 have e2:(strip (A++(iU L++(iU L++(M++(iU R++(iU R++B))))))).drop (a+(b-a))=strip (iU R++B):=by
  have:A++(iU L++(iU L++(M++(iU R++(iU R++B)))))=(A++(iU L++(iU L++(M++iU R))))++(iU R++B):=by simp
  rw[this,fG];exact List.drop_left' (by rw[aU,show a+(b-a)=b by omega, ←hb'];simp only[fU];omega)
 rw[e1,e2];simp only[fG,ku,f_]
theorem Ac(L:ze):(iU L).length=(kX L).length:=by cases L<;>rfl
theorem LG(L:ze):(iU L).length=(m_ L).length:=by cases L<;>rfl
theorem RN(x:aI)(hP:P.length=a)(hM:M.length=1):(P++(M++Q)).set a x=P++([x]++Q):=by
 match M,hM with
 | [m],_=>subst hP;simp
theorem RO(x y:aI)(hP:P.length=a)(hM:M.length=2):((P++(M++Q)).set a x).set (a+1) y=P++([x,y]++Q):=by
 match M,hM with
 | [m,n],_=>subst hP;simp
def mQ (c:Int) (p:fO) (wd:Nat) (i:Int):bY:=if wd=2 then[(⟨c,p,1⟩,i),(⟨0,p,2⟩,i)]else[(⟨c,p,0⟩,0)]
theorem Rk(hN:0≤N){r:bY}(h:Ao N r)(c:Int)(p:fO)(wd:Nat)(hwd:wd=1∨wd=2)(hb:a+wd≤r.length):strip (over r a (mQ c p wd (N+1)))=yC (strip r) a c wd p∧Ao (if wd=2 then N+1 else N) (over r a (mQ c p wd (N+1))):=by
 obtain⟨A,L,M,R,B,hc,rfl,ha,hb',hs⟩:=h.cut (a:=a) (b:=a+wd) (by omega) hb;have hlen:(mQ c p wd (N+1)).length=(m_ L++(M++kX R)).length:=by
  have:(mQ c p wd (N+1)).length=wd:=by rcases hwd with rfl|rfl<;>rfl
  simp only[fU]at ha hb' ⊢;omega
 have hq:gF (mQ c p wd (N+1)):=by
  rcases hwd with rfl|rfl
  ·exact .one _ _ rfl .nil
  ·exact .two ⟨c,p,1⟩ (N+1) [] rfl .nil
 have e:=DL hc _ hq (by rcases hwd with rfl|rfl<;>simp[mQ]) (fun x hx=>by
  rcases hwd with rfl|rfl
  ·simp[mQ]at hx;subst hx;exact .inl rfl
  ·simp[mQ]at hx;rcases hx with rfl|rfl<;>(right;show N<N+1;omega)) hlen
 rw[ha]at e;rw[e];have t1:=Ac L;have t2:=LG L;have t3:=Ac R;have e0:A++(iU L++(iU L++(M++(iU R++(iU R++B)))))=(A++iU L)++((iU L++(M++iU R))++(iU R++B)):=by simp
 have hP:(strip (A++iU L)).length=a:=by rw[aU, ←ha];simp only[fU];omega
 have hM:(strip (iU L++(M++iU R))).length=wd:=by rw[aU];simp only[fU]at ha hb' ⊢;omega
 constructor
 ·unfold yC;rw[hs,e0,fG (A++iU L),fG (iU L++(M++iU R))];rcases hwd with rfl|rfl
  ·rw[ai (by decide),RN _ hP hM];simp[mQ,strip]
  ·rw[ak rfl,RO _ _ hP hM];simp[mQ,strip]
 ·rcases hwd with rfl|rfl
  ·exact E_ hc _ hq (by simp) (by simp[mQ,dB,hid]) (by simp[mQ,dB,hid]) hN
  ·exact E_ hc _ hq (by simp;omega) (by simp[mQ,dB,hid]) (by simp[mQ,dB,hid];omega) hN
theorem DD(hb:a+n≤r.length)(e:aJ (aJ r a) (r.length-n)=P++(M++Q))(h1:P.length=a)(h2:M.length=r.length-n-a):wF r a n=P++(List.replicate n aD++M):=by
 have hl:r.length=P.length+(M.length+Q.length):=by rw[←fU, ←fU, ←e,aH,aH]
 unfold wF;rw[e];have e1:((P++(M++Q)).drop a).take (r.length-(a+n))=M:=by rw[←h1,List.drop_left,show r.length-(P.length+n)=M.length by omega,uu]
 rw[e1];unfold jZ;have e2:(P++(M++Q)).drop (a+n+M.length)=[]:=wL (by simp;omega);rw[e2,gp];unfold jv;have hT:((P++(M++Q)).take (a+n)).length=a+n:=by simp;omega
 have e3:((P++(M++Q)).take (a+n)++M).take a=P:=by rw[List.take_append_of_le_length (by omega),List.take_take,rT (by omega), ←h1,uu]
 have e4:((P++(M++Q)).take (a+n)++M).drop (a+n)=M:=by rw[List.drop_append,wL (by omega),hT];simp
 rw[e3,e4]
theorem NK(hb:a+n≤r.length)(e:aJ (aJ r a) (a+n)=P++(M++Q))(h1:P.length=a)(h2:M.length=n):wH r a n=P++(Q++List.replicate n aD):=by
 have hl:r.length=P.length+(M.length+Q.length):=by rw[←fU, ←fU, ←e,aH,aH]
 unfold wH;rw[e];have e1:(P++(M++Q)).drop (a+n)=Q:=by rw[←f_,show a+n=(P++M).length by simp;omega,List.drop_left]
 rw[e1];unfold jZ jv;have e2:(P++(M++Q)).take a=P:=by rw[←h1,uu]
 rw[e2];have e3:(P++(Q++(P++(M++Q)).drop (a+Q.length))).take (r.length-n)=P++Q:=by rw[←f_,show r.length-n=(P++Q).length by simp;omega,uu]
 have e4:(P++(Q++(P++(M++Q)).drop (a+Q.length))).drop (r.length-n+n)=[]:=wL (by simp;omega);rw[e3,e4,gp,f_]
theorem Cut.ok3{A:bY}{L:ze}{M:bY}{R:ze}{B:bY}(h:Cut N A L M R B)(X:bY)(hX:gF X)(hi:dB X=dB A++dB B∨dB X=dB A++dB M):Ao N X:=by
 have nd:=h.nd;have bd:=h.bd;simp only[List.nodup_append,nM]at nd bd;refine⟨hX,?_,?_⟩
 ·rcases hi with e|e<;>rw[e]<;>simp only[List.nodup_append]
  ·exact⟨nd.1,nd.2.1.2.1.2.1.2.1,fun a ha b hb=>nd.2.2 a ha b (by simp[hb])⟩
  ·exact⟨nd.1,nd.2.1.2.1.1,fun a ha b hb=>nd.2.2 a ha b (by simp[hb])⟩
 ·intro i hi';rcases hi with e|e<;>rw[e]at hi'<;>simp only[nM]at hi'<;>rcases hi' with k|k<;>exact bd i (by simp[k])
theorem NG{r:bY}(h:Ao N r)(ha0:a<r.length)(hn:1≤n):strip (tY r a n)=jT (strip r) a n∧Ao N (tY r a n):=by
 unfold tY jT;rw[aU];obtain⟨m,hm⟩:∃m,m=min n (r.length-a):=⟨_,rfl⟩;rw[←hm];have hm1:1≤m:=by omega
 have hml:a+m≤r.length:=by omega
 clear hm;obtain⟨A,L,M,R,B,hc,rfl,ha,hb',hs⟩:=h.cut (a:=a) (b:=a+m) (by omega) hml;have e1:(A++(kX L++(m_ L++(M++(kX R++(m_ R++B)))))).take a=A++kX L:=by rw[←f_];exact List.take_left' ha
 have e2:(A++(kX L++(m_ L++(M++(kX R++(m_ R++B)))))).drop (a+m)=m_ R++B:=by
  have:A++(kX L++(m_ L++(M++(kX R++(m_ R++B)))))=(A++(kX L++(m_ L++(M++kX R))))++(m_ R++B):=by simp
  rw[this];exact List.drop_left' hb'
 have nd:=hc.nd;have bd:=hc.bd;simp only[List.nodup_append,nM]at nd bd;have hLR:∀c d,L=some c→R=some d→d.2≠c.2:=fun c d q1 q2=>by subst q1 q2;exact fun e=>nd.2.1.2.2 c.2 (by simp) d.2 (by simp) e.symm
 have hLB:∀c,L=some c→c.2∉dB B:=fun c q1 k=>by subst q1;exact nd.2.1.2.2 c.2 (by simp) c.2 (by simp[k]) rfl
 have hRA:∀c,R=some c→c.2∉dB A:=fun c q1 k=>by subst q1;exact nd.2.2 c.2 k c.2 (by simp) rfl
 have key:mend none (A++kX L++(m_ R++B++List.replicate m aM))=A++(iU L++(iU R++(B++List.replicate m aM))):=by
  rw[f_,nu hc.gA,Aw hc.hL _ _ (fun c hcc x hx=>?_),f_,EZ _ _ (fun c hcc x hx=>?_)]
  ·have:=nu (hc.gB.append (gF.blank m)) [] (mR (mR (mR none A) (kX L)) (m_ R));rw[gp]at this;rw[this];simp[mend]
  ·have hp:=hc.aaP hcc;cases L with
   |none=>
    rcases zy (x:=A) hx with k|⟨_,k⟩
    ·rcases hc.gA.ids x k with j|j
     ·omega
     ·exact fun e=>hRA c hcc (e▸j)
    ·cases k
   |some d=>
    have:d=x:=by simpa[kX,mR]using hx
    subst this;exact fun e=>hLR _ _ rfl hcc e.symm
  ·have hp:=hc.Uh hcc;cases R with
   |none=>
    have hx':x∈B++List.replicate m aM:=head_mem (by simpa[m_]using hx);rcases nM.1 hx' with k|k
    ·rcases hc.gB.ids x k with j|j
     ·omega
     ·exact fun e=>hLB c hcc (e▸j)
    ·rw[AJ k];show(0:Int)≠c.2;omega
   |some d=>
    have:(jQ d.1,d.2)=x:=by simpa[m_]using hx
    subst this;exact hLR c d hcc rfl
 rw[e1,e2,key];have t1:=Ac L;have t2:=LG L;have t3:=Ac R;have e0:A++(iU L++(iU L++(M++(iU R++(iU R++B)))))=(A++iU L)++((iU L++(M++iU R))++(iU R++B)):=by simp
 rw[e0,fG (A++iU L),fG (iU L++(M++iU R))]at hs;constructor
 ·rw[NK (by rw[aU];exact hml) hs (by rw[aU, ←ha];simp only[fU];omega) (by rw[aU];simp only[fU]at ha hb' ⊢;omega)];simp only[fG,ku,f_]
 ·refine hc.ok3 _ (hc.gA.append ((rz L).append ((rz R).append (hc.gB.append (gF.blank m))))) (.inl ?_);simp only[lN,xx,kQ,mP,gp]
theorem Iw{A B:bY}{L:ze}(hB:gF B)(ha:(A++kX L).length=a):aJ (strip (A++(iU L++(iU L++B)))) a=strip (A++(iU L++(iU L++B))):=by have:=vX (A:=A++iU L) (L:=none) (B:=iU L++B) (a:=a) ((rz L).append hB) (by have e:=Ac L;rw[fU]at ha;rw[fU,fU];show _+_+0=_;omega);simpa[kX,m_,iU]using this
theorem DU(hN:0≤N){r:bY}(h:Ao N r)(ha0:a<r.length)(hn:1≤n):strip (pushed r a n)=jd (strip r) a n∧Ao N (pushed r a n):=by
 unfold pushed jd;rw[aU];obtain⟨m,hm⟩:∃m,m=min n (r.length-a):=⟨_,rfl⟩;rw[←hm];have hm1:1≤m:=by omega
 have hml:a+m≤r.length:=by omega
 clear hm;have e0:(r.take a++(List.replicate m aM++r.drop a)).take r.length=r.take a++(List.replicate m aM++(r.drop a).take (r.length-m-a)):=by rw[List.take_append,List.take_append];simp only[kg,kJ,List.take_take,List.take_replicate];rw[rT (show a≤r.length by omega),wO (by omega:a≤r.length),wO (by omega),show r.length-a-m=r.length-m-a by omega]
 rw[e0];by_cases hab:a<r.length-m
 ·obtain⟨A,L,M,R,B,hc,hr,ha,hb',hs⟩:=h.cut (b:=r.length-m) hab (by omega);have e1:r.take a=A++kX L:=by rw[hr, ←f_];exact List.take_left' ha
  have e2:(r.drop a).take (r.length-m-a)=m_ L++(M++kX R):=by
   have:A++(kX L++(m_ L++(M++(kX R++(m_ R++B)))))=(A++kX L)++((m_ L++(M++kX R))++(m_ R++B)):=by simp
   conv=>lhs;arg 2;rw[hr,this]
   rw[List.drop_left' ha];exact List.take_left' (by simp only[fU]at ha hb' ⊢;omega)
  rw[e1,e2];obtain⟨k,rfl⟩:∃k,m=k+1:=⟨m-1,by omega⟩;have key:mend none (A++kX L++(List.replicate (k+1) aM++(m_ L++(M++kX R))))=A++(iU L++(List.replicate (k+1) aM++(iU L++(M++iU R)))):=by
   rw[f_,nu hc.gA,Aw hc.hL _ _ (fun c hcc x hx=>?_),nu (gF.blank (k+1)),EZ _ _ (fun c hcc x hx=>?_),nu hc.gM]
   ·have:=Aw hc.hR (mR (mR (mR (mR (mR none A) (kX L)) (List.replicate (k+1) aM)) (m_ L)) M) [] (fun c hcc x hx=>by cases hx);rw[gp]at this;rw[this];simp[mend]
   ·have hp:=hc.Uh hcc;rcases zy hx with k|⟨k,_⟩
    ·rw[AJ k];show(0:Int)≠c.2;omega
    ·simp at k
   ·have hp:=hc.Uh hcc;simp[AO]at hx;subst hx;show(0:Int)≠c.2;omega
  rw[key];have t1:=Ac L;have t2:=LG L;have t3:=Ac R;have e0:A++(iU L++(iU L++(M++(iU R++(iU R++B)))))=(A++iU L)++((iU L++(M++iU R))++(iU R++B)):=by simp
  rw[e0,fG (A++iU L),fG (iU L++(M++iU R))]at hs;constructor
  ·rw[DD (by rw[aU];exact hml) (by rw[aU];exact hs) (by rw[aU, ←ha];simp only[fU];omega) (by rw[aU,aU];simp only[fU]at ha hb' ⊢;omega)];simp only[fG,ku,f_]
  ·refine hc.ok3 _ (hc.gA.append ((rz L).append ((gF.blank _).append ((rz L).append (hc.gM.append (rz R)))))) (.inr ?_);simp only[lN,xx,kQ,mP,gp]
 ·have hm2:m=r.length-a:=by omega
  have e1:(r.drop a).take (r.length-m-a)=[]:=by rw[show r.length-m-a=0 by omega];rfl
  have eo:r.take a++(List.replicate m aM++(r.drop a).take (r.length-m-a))=r.take a++(List.replicate (r.length-a) aM++r.drop (a+(List.replicate (r.length-a) aM).length)):=by rw[e1,hm2,wL (by simp;omega)]
  have:=tX hN h (a:=a) (b:=r.length) ha0 (bN _);unfold over at this;rw[←eo]at this;refine⟨this.1.trans ?_,this.2⟩;obtain⟨A,L,B,rfl,h2,h3,h4,h5⟩:=h.g.cut a (by omega);have hs:=vX h4 h2;have hs2:=Iw h4 h2;have t1:=Ac L;have hP:(strip (A++iU L)).length=a:=by rw[aU, ←h2];simp only[fU];omega
  have e3:A++(iU L++(iU L++B))=(A++iU L)++(iU L++B):=by simp
  rw[DD (P:=strip (A++iU L)) (M:=[]) (Q:=strip (iU L++B)) (by rw[aU];exact hml) (by rw[aU,show(A++(kX L++(m_ L++B))).length-m=a by omega,hs,hs2,e3,fG (A++iU L)];rfl) hP (by rw[aU,hm2];simp;omega)];unfold dP jv;have hlast:aJ (aJ (strip (A++(kX L++(m_ L++B)))) a) (A++(kX L++(m_ L++B))).length=aJ (strip (A++(kX L++(m_ L++B)))) a:=
   sG (fun x hx=>by rw[wM (by rw[aH,aU];exact bN _)]at hx;cases hx)
  rw[hlast,hs,e3,fG (A++iU L),List.take_left' hP,hm2,wL,gp];rw[fU,hP,aU];have t2:=LG L;simp only[fU]at h2 ha0 ⊢;omega
end Go.Proofs.YtheibfffilomcaaGreatDoor
