import Derived.Test.YtheibfffilomcabGreatDoorEvnU
import Derived.Test.YtheibfffilomcabGreatDoorBookU
import Derived.Test.YtheibfffilomcabGreatDoorMwaU
import Derived.ChangeKeysEq
import Derived.Deep.RegionHeld
set_option linter.all false
set_option maxRecDepth 100000
set_option maxHeartbeats 1000000
namespace Go.Proofs.YtheibfffilomcabGreatDoor
open Go.RowKit Go.Proofs.Tryz
variable {w w' u:World} {Q:Exit→Act→World→Prop} {ops:Array Oper} {S:World→Prop} {fuel d d1 d2 p bb b B i d3:Nat} {listed:Array Bool} {ds:List Deferred} {v v1 v2 vi vm v3:Value} {a:Act} {oi o1 o2 o3:Oper} {m nx:Int} {I vs:List Value} {M:List Int} {E:List (Value × Int)} {s:RS} {α:Type} {ar:List Operand} {ats:Array TypeId}
theorem Apart.symm{u:Value}(h:Apart u v):Apart v u:=by
 unfold Apart at*;cases hv:v.ownBlock with
 |none=>exact Or.inl rfl
 |some k=>
  rcases h with h|h
  ·right;rw[h];simp
  ·right;rw[hv]at h;exact fun e=>h e.symm
theorem Apart.later{u z:Value}{n:Nat}(h:v.ownBlock=u.ownBlock∨∃k,v.ownBlock=some k∧n≤k)(ha:Apart u z)(hz:∀k,z.ownBlock=some k→k<n):Apart v z:=by
 unfold Apart at*;rcases h with h|⟨k,h,hk⟩
 ·rw[h];exact ha
 ·right;rw[h];intro e;have:=hz k e.symm;omega
theorem LU(p:Nat)(m:Int):nZ p [.int .i64 m]=(List.replicate p m).map (Value.int .i64):=by
 induction p with
 |zero=>rfl
 |succ p ih=>unfold nZ at ih ⊢;rw[Jo,List.flatten_cons,ih,Jo,List.map_cons];rfl
theorem eu.nZ{base:Nat}:eu w base v (List.replicate p m)↔w.ownsRow base 3 1 v p (nZ p [.int .i64 m]):=by unfold eu;rw[LU,Au]
theorem uh.grown(h:uh w bb vi vm I M E nx){row:Option Nat}(hg:w.grownBy w' row)(hbb:some bb≠row)(hi:vi.ownBlock=none∨vi.ownBlock≠row)(hm:vm.ownBlock=none∨vm.ownBlock≠row)(hE:∀x∈E,x.1.ownBlock=none∨x.1.ownBlock≠row):uh w' bb vi vm I M E nx:=by
 have hlt:bb<w.heap.size:=DT _ _ h.c0;have hbk:=hg.block bb hlt hbb
 refine⟨(eT hbk).trans h.c0,(eT hbk).trans h.c1,(eT hbk).trans h.c2,(eT hbk).trans h.c3,(eT hbk).trans h.c4,(eT hbk).trans h.c5,(eT hbk).trans h.c6,
  fun j hj=>(DN hbk).trans (h.f j hj),h.oi.kept hg hi,Jl h.om hg hm,fun x hx=>?_⟩
 obtain⟨a,p,hp,hl⟩:=h.ent x hx;exact⟨a,p,hp,Jl hl hg (hE x hx)⟩
structure Fr (S:Nat→Prop) (w w':World):Prop where
 os:w'.os=w.os
 tape:w'.tape=w.tape
 output:w'.output=w.output
 size:w.heap.size≤w'.heap.size
 block:∀g,g<w.heap.size→¬S g→w'.heap[g]? =w.heap[g]?
theorem Fr.trans{S:Nat→Prop}{a b c:World}(h:Fr S a b)(k:Fr S b c):Fr S a c:=
 ⟨k.os.trans h.os,k.tape.trans h.tape,k.output.trans h.output,fA h.size k.size,fun g hg hs=>(k.block g (aH hg h.size) hs).trans (h.block g hg hs)⟩
theorem Fr.grown{S:Nat→Prop}{row:Option Nat}(h:w.grownBy w' row)(hs:∀g,some g=row→S g):Fr S w w':=
 ⟨h.os,h.tape,h.output,h.size,fun g hg hn=>h.block g hg (fun e=>hn (hs g e))⟩
theorem Fr.set{S:Nat→Prop}{o:Nat}{x:Value}(hs:S b):Fr S w (w.setCell ⟨b,o,none⟩ x):=
 ⟨rfl,rfl,rfl,by simp[World.setCell],fun g _ hn=>yn _ _ _ _ (fun e=>hn (e▸hs))⟩
theorem Fr.below{S:Nat→Prop}(h:Fr S w w')(hB:B≤w.heap.size)(hs:∀g,g<B→¬S g):Below B w w':=
 ⟨h.os,h.tape,h.output,h.size,fun k hk=>h.block k (by omega) (hs k hk)⟩
theorem G_(w:World)(a b:Addr)(x:Value):(w.setCell a x).frozen? b=w.frozen? b:=by simp
theorem uh.FH(h:uh w bb vi vm I M E nx)(m:Int):uh (w.setCell ⟨bb,6,none⟩ (.int .i64 m)) bb vi vm I M E m:=by
 have o:∀j x,j≠6→w.cell? ⟨bb,j,none⟩=some x→(w.setCell ⟨bb,6,none⟩ (.int .i64 m)).cell? ⟨bb,j,none⟩=some x:=fun j x hj hx=>(bA w bb 6 j _ (by omega)).trans hx
 refine⟨o 0 _ (by omega) h.c0,o 1 _ (by omega) h.c1,o 2 _ (by omega) h.c2,o 3 _ (by omega) h.c3,o 4 _ (by omega) h.c4,o 5 _ (by omega) h.c5,AJ _ _ _ h.c6,
  fun j hj=>(G_ _ _ _ _).trans (h.f j hj),ownsRow_setCell_below h.oi (by simp) _,ownsRow_setCell_below h.om (by simp) _,fun x hx=>?_⟩
 obtain⟨a,p,hp,hl⟩:=h.ent x hx;exact⟨a,p,hp,ownsRow_setCell_below hl (by simp) _⟩
theorem eu.slice(h:eu w b v (List.replicate p m)):∃a c,v= .slice a p c:=by obtain⟨a,c,e,_⟩:=rq h;exact⟨a,c,by simpa using e⟩
def bl (s:ByteArray):List Int:=s.data.toList.map fun c=>(c.toNat:Int)
theorem oG(s:ByteArray):(bl s).length=s.size:=by simp[bl]
theorem QJ(s:ByteArray)(k:Nat)(h:k<s.size):(bl s).take (k+1)=(bl s).take k++[((s[k]'h).toNat:Int)]:=by rw[yh (by rw[oG];exact h)];simp[bl];rfl
theorem Tz(s:ByteArray):(bl s).take s.size=bl s:=sG (by rw[oG];exact bE _)
theorem eu.mono{B':Nat}{L:List Int}(h:eu w B v L)(hB:B'≤B):eu w B' v L:=by
 obtain⟨h1,h2⟩:=h;refine⟨h1,?_⟩;rcases h2 with h2|⟨g,cap,cur,hv,hg,r⟩
 ·exact Or.inl h2
 ·exact Or.inr ⟨g,cap,cur,hv,fA hB hg,r⟩
theorem jK.lt{w:World}(h:jK w):0<w.heap.size:=by obtain⟨t,fr,h⟩:=h;exact(kP.1 h).1
def rH (c:Int):List Int:=
 if c<128 then[c]else if c<2048 then[192+c / 64,128+c % 64]else if c<65536 then[224+c / 4096,128+c / 64 % 64,128+c % 64]
 else[240+c / 262144,128+c / 4096 % 64,128+c / 64 % 64,128+c % 64]
theorem MK(c:Int)(h0:0≤c)(h1:c<1114112):∀x∈rH c,0≤x∧x<256:=by
 unfold rH;intro x hx
 repeat' split at hx
 all_goals simp at hx
 ·omega
 ·rcases hx with rfl|rfl<;>omega
 ·rcases hx with rfl|rfl|rfl<;>omega
 ·rcases hx with rfl|rfl|rfl|rfl<;>omega
theorem Gc(c:Int):(rH c).length≤4:=by
 unfold rH
 repeat' split
 all_goals simp
structure Goes (s:RS) (rest:List Int) (c:Int) (j:Nat) (wh:Bool):Prop where
 yes:wh=true→j≤rest.length∧s.run rest=((RS.zero.run (rest.drop j)).1,c::(RS.zero.run (rest.drop j)).2)
 no:wh=false→j=rest.length∧c=65533∧(s.run rest).2=[]∧(s.run rest).1.m≠0

theorem nJ(s:ByteArray):∀b∈bl s,0≤b∧b<256:=by intro b hb;obtain⟨c,_,rfl⟩:=List.mem_map.1 hb;have:=UInt8.toNat_lt c;omega

theorem NU{b:Int}(h0:0≤b)(h1:b<256):∀c∈(s.sw b).2,0≤c∧c≤10000000:=by
 intro c hc;unfold RS.sw at hc;split at hc
 ·simp at hc;omega
 ·split at hc
  ·simp at hc
  ·simp at hc;omega
theorem Du{b:Int}(hs:s.ok)(h0:0≤b)(h1:b<256):∀c∈(s.take b).2,0≤c∧c≤10000000:=by
 intro c hc;unfold RS.take at hc;split at hc
 ·exact NU h0 h1 c hc
 ·split at hc
  ·rcases oq.1 hc with hc|hc
   ·unfold RS.fin at hc;split at hc
    ·simp at hc
    ·simp at hc;omega
   ·exact NU h0 h1 c hc
  ·unfold RS.join at hc;split at hc
   ·have:=hs.v0;have:=hs.v1 ‹_›;simp at hc;omega
   ·simp at hc
def MS.evs (s:MS):List Int→MS × List (List Int)
 | []=>(s,[])
 |c::r=>((MS.evs (s.take c).1 r).1,(if(s.take c).2.2 then[(s.take c).2.1]else[])++(MS.evs (s.take c).1 r).2)
theorem Ub{s:MS}(h:s.ok)(l:List Int)(hl:∀c∈l,0≤c∧c≤10000000):(s.evs l).1.ok∧(∀e∈(s.evs l).2,e.length=21)∧(s.evs l).2.length≤l.length:=by
 induction l generalizing s with
 |nil=>exact⟨h,fun e he=>by simp[MS.evs]at he,by simp[MS.evs]⟩
 |cons c l ih=>
  have hc:=hl c (by simp);obtain⟨a1,a2,a3⟩:=ih (h.take hc.1 hc.2) (fun x hx=>hl x (by simp[hx]));refine⟨a1,fun e he=>?_,?_⟩
  ·simp only[MS.evs]at he;rcases oq.1 he with he|he
   ·split at he
    ·simp at he;rw[he];exact wL h.len c
    ·simp at he
   ·exact a2 e he
  ·simp only[MS.evs,lQ,fB];split
   ·simp;omega
   ·simp;omega
theorem jX(xs:Array Value)(off:Nat)(x:Int)(h:xs[off]? =some (.int .i64 x))(w:World):(part 3 xs off).run prog w= .ok (.int .i64 x) w:=by
 have hz:(isAgg 3).run prog w= .ok false w:=by kernel_rfl
 simp[part,hz,h]
theorem sV(xs:Array Value)(off:Nat)(x:Bool)(h:xs[off]? =some (.bool x))(w:World):(part 4 xs off).run prog w= .ok (.bool x) w:=by
 have hz:(isAgg 4).run prog w= .ok false w:=by kernel_rfl
 simp[part,hz,h]
theorem CP(xs:Array Value)(off:Nat)(w:World):(part 102 xs off).run prog w= .ok (.agg (xs.extract off (off+5))) w:=by
 have hz:(isAgg 102).run prog w= .ok true w:=by kernel_rfl
 have hs:(sizeOf 102).run prog w= .ok 5 w:=by kernel_rfl
 simp only[part,kN,hz,kM,if_true,hs,qg]
theorem rP(d:Nat)(xs ys:Array Value)(w:World):∀(fs:List Field) (L:List (TypeId × Nat × Bool)),(∀f∈fs,f.name≠ "_")→fs.map (fun f=>(f.type,f.offset))=L.map (fun x=>(x.1,x.2.1))→
 (∀x∈L,∃a b,(part x.1 xs x.2.1).run prog w= .ok a w∧(part x.1 ys x.2.1).run prog w= .ok b w∧(Op.equalIn d x.1 a b).run prog w= .ok x.2.2 w)→(Op.eqFields d xs ys fs).run prog w= .ok (L.all (·.2.2)) w
 | [],[],_,_,_=>by simp[Op.eqFields]
 | [],_::_,_,h,_=>by simp at h
 |_::_,[],_,h,_=>by simp at h
 |f::fs,x::L,hn,h,hx=>by
  simp only[List.map_cons,List.cons.injEq,Prod.mk.injEq]at h;obtain⟨⟨h1,h2⟩,h3⟩:=h;obtain⟨a,b,e1,e2,e3⟩:=hx x (by simp);have ih:=rP d xs ys w fs L (fun g hg=>hn g (by simp[hg])) h3 (fun y hy=>hx y (by simp[hy]));rw[←h1, ←h2]at e1 e2;rw[←h1]at e3;have hf:f.name≠ "_" :=hn f (by simp);simp only[Op.eqFields,kN,Sem.run_ite,e1,e2,e3,kM,List.all_cons];rw[aS (by simpa using hf)];cases x.2.2
  ·simp
  ·simpa using ih
theorem X7(d:Nat)(x y:Bool)(w:World):(Op.equalIn (d+1) 4 (.bool x) (.bool y)).run prog w= .ok (x==y) w:=by simp[Op.equalIn,run_underlying underlying4]
theorem QU(d:Nat)(x y:Int)(w:World):(Op.equalIn (d+1) 3 (.int .i64 x) (.int .i64 y)).run prog w= .ok (x==y) w:=by rw[run_equalIn_int w d 3 .i64 .i64 x y underlying3]
theorem eqP(d:Nat)(p q:fO)(w:World):(Op.equalIn (d+2) 102 (.agg (gI p)) (.agg (gI q))).run prog w= .ok (decide (p=q)) w:=by
 have hu:prog.underlying 102=some (.struct (prog.fieldsOf 102)):=by kernel_rfl
 have hp:prog.stoodInHeld 102=false:=by kernel_rfl
 rw[run_equalIn_struct w (d+1) 102 _ _ hu hp];rw[rP (d+1) _ _ w _ [(4,0,p.b==q.b),(4,1,p.u==q.u),(4,2,p.t==q.t),(3,3,p.f==q.f),(3,4,p.k==q.k)] (nG (by kernel_rfl)) (by kernel_rfl) ?_]
 ·refine congrArg (fun z=>Result.ok z w) ?_;obtain⟨b,u,t,f,k⟩:=p;obtain⟨b',u',t',f',k'⟩:=q;simp only[List.all_cons,List.all_nil,fO.mk.injEq,Bool.and_true];rw[Bool.eq_iff_iff];simp
 ·intro x hx;simp only[di,eU,eX]at hx;rcases hx with rfl|rfl|rfl|rfl|rfl
  ·exact⟨_,_,sV _ 0 p.b rfl w,sV _ 0 q.b rfl w,X7 _ _ _ w⟩
  ·exact⟨_,_,sV _ 1 p.u rfl w,sV _ 1 q.u rfl w,X7 _ _ _ w⟩
  ·exact⟨_,_,sV _ 2 p.t rfl w,sV _ 2 q.t rfl w,X7 _ _ _ w⟩
  ·exact⟨_,_,jX _ 3 p.f rfl w,jX _ 3 q.f rfl w,QU _ _ _ w⟩
  ·exact⟨_,_,jX _ 4 p.k rfl w,jX _ 4 q.k rfl w,QU _ _ _ w⟩
theorem eqC(c e:aC)(w:World):(Op.equalIn 10000 104 (.agg (bO c)) (.agg (bO e))).run prog w= .ok (decide (c=e)) w:=by
 have hu:prog.underlying 104=some (.struct (prog.fieldsOf 104)):=by kernel_rfl
 have hp:prog.stoodInHeld 104=false:=by kernel_rfl
 rw[run_equalIn_struct w 9999 104 _ _ hu hp];rw[rP 9999 _ _ w _ [(3,0,c.r==e.r),(102,1,decide (c.p=e.p)),(3,6,c.part==e.part)] (nG (by kernel_rfl)) (by kernel_rfl) ?_]
 ·refine congrArg (fun z=>Result.ok z w) ?_;obtain⟨r,p,t⟩:=c;obtain⟨r',p',t'⟩:=e;simp only[List.all_cons,List.all_nil,aC.mk.injEq,Bool.and_true];rw[Bool.eq_iff_iff];simp
 ·intro x hx;simp only[di,eU,eX]at hx;rcases hx with rfl|rfl|rfl
  ·exact⟨_,_,jX _ 0 c.r rfl w,jX _ 0 e.r rfl w,QU _ _ _ w⟩
  ·refine⟨_,_,CP _ 1 w,CP _ 1 w,?_⟩;exact eqP 9997 c.p e.p w
  ·exact⟨_,_,jX _ 6 c.part rfl w,jX _ 6 e.part rfl w,QU _ _ _ w⟩
theorem abU(c d:aC)(w:World):(binOp .eql 104 (.agg (bO c)) (.agg (bO d))).run prog w= .ok (.bool (decide (c=d))) w:=by rw[run_eql_struct,eqC];rfl
theorem acK(c d:aC)(w:World):(binOp .neq 104 (.agg (bO c)) (.agg (bO d))).run prog w= .ok (.bool (!decide (c=d))) w:=by rw[run_neq_struct,eqC];rfl
theorem Bp{fn:Func}{p:Tmp}(h:fn.results= #[.cell p 104])(tmps:Array Value)(w:World)(g:Nat)(c:aC)(t:TypeId)(fr:Nat × Nat)(hp:tmps.getD p undef= .pointer (some ⟨g,0,none⟩))(hg:w.heap[g]? =some (.cells (bO c) t fr)):
 (results fn tmps).run prog w= .ok (.agg (bO c)) w:=
 results_cell_row h tmps w g t (bO c) fr _ hp hg underlying104 rfl (by rw[pI];exact eF)
theorem j5(w:World):Calls prog 141 #[] w fun e w'=>e= .returned (.agg (bO aQ))∧Below w.heap.size w w':=by go_enter func141,ntmps141;go_wp2;exact gL (Bp results141 _ _ w.heap.size aQ 104 (0,0) rfl (bJ _ _)) rfl ⟨rfl,(dF _ _).alloc (bE _) _⟩
theorem F4(c:aC)(w:World):Calls prog 167 #[.agg (bO c)] w fun e w'=>e= .returned (.agg (bO (lN c)))∧Below w.heap.size w w':=by
 change Calls prog 167 #[.agg #[.int .i64 c.r,.bool c.p.b,.bool c.p.u,.bool c.p.t,.int .i64 c.p.f,.int .i64 c.p.k,.int .i64 c.part]] w _;go_enter func167,ntmps167;go_wp2;refine gL (Bp results167 _ _ (w.heap.size+1) (lN c) 104 (0,0) (by simp) ?_) rfl ⟨rfl,?_⟩
 ·have hs:(w.alloc (.cells #[.int .i64 c.r,.bool c.p.b,.bool c.p.u,.bool c.p.t,.int .i64 c.p.f,.int .i64 c.p.k,.int .i64 c.part] 104)).heap.size=w.heap.size+1:=by simp
  rw[←hs];exact bJ _ _
 ·exact((dF _ _).alloc (bE _) _).alloc (by simp) _
theorem Qf(r:List aC)(a k:Nat)(h:a+k<r.length):(gQ r a k).set (a+k) aQ=gQ r a (k+1):=by
 unfold gQ;have h1:(r.take a).length=a:=by rw[jJ];omega
 rw[M7 _ _ (by omega),h1,M7 _ _ (by simp),Au,show a+k-a-k=0 by omega, ←List.getElem_cons_drop h,nE,List.replicate_succ',sF];rfl
theorem MN(r:List aC)(a:Nat):gQ r a 0=r:=by simp[gQ]
theorem jT(g off a n cap:Nat)(r:List aC)(w:World)(hoff:off=a*7)(hr:aK w g r)(han:a+n≤r.length)(hrl:r.length≤100):
 Calls prog 160 #[.slice (some ⟨g,off,none⟩) n cap] w fun e w'=>e= .returned (.tuple #[])∧aK w' g (gQ r a n)∧Ch (· =g) w w':=by
 subst hoff;go_enter func160,ntmps160;go_wp2_with fail;go_loopw [5] (fun i wr=>∃k:Nat,k≤n∧i= .int .i64 k∧aK wr g (gQ r a k)∧Ch (· =g) w wr) (fun i _=>n-(intOf i).toNat)
 case atStart=>exact⟨0,jy _,rfl,by rw[MN];exact hr,Ch.refl _ _⟩
 case round=>
  obtain⟨k,hk,rfl,lU,hch⟩:=hrel;by_cases hlt:k<n
  ·have ik:(k:Int)<(n:Int):=by omega
   have hl:(gQ r a k).length=r.length:=lZ r a k (by omega);have HR:Hid (aK wr g (gQ r a k)):=lU;have HC:Hid _:=hch;have HL:Hid _:=hl;clear lU hch hl;go_wp2_with (first|(go_at_call 141;refine(j5 _).mono ?_;rintro e w1 ⟨rfl,b1⟩)|(refine pq _ rfl (.tmp 11) (.tmp 10) rfl g (a*7+k*7) (a+k) (gQ r a k) aQ rfl (by omega) (bO aQ) rfl rfl (HR.o.kept (b1.block g HR.o.lt)) (by rw[HL.o];omega) ?_));intro u' hu cu su;rw[Qf _ _ _ (by omega)]at hu;have C2:Ch (· =g) w u':=(HC.o.trans (Ch.of_below b1)).trans cu;clear HR HC HL cu su b1;go_wp2_with fail;go_roundw
   case rel=>exact⟨k+1,by omega,by go_num,hu,C2⟩
   case measure=>simp[intOf];omega
  ·have hkn:k=n:=by omega
   subst hkn;go_wp2_with fail;go_end0;exact⟨rfl,lU,hch⟩
theorem Ou(op:BinOp)(x y:Operand)(xs ys:Array Value)(w:World):(eqGuard op 104 x y (.agg xs) (.agg ys)).run prog w= .ok () w:=run_eqGuard_agg w op 104 x y xs ys (by kernel_rfl)
theorem zy{o:Oper}(x y:Operand)(ho:o.op= .binOp .eql 104 x y 104)(c d:aC)(hx:a.eval x= .agg (bO c))(hy:a.eval y= .agg (bO d))(w:World):(execOp a.eval o).run prog w= .ok (.value (.bool (decide (c=d)))) w:=by unfold execOp;simp only[ho,hx,hy,kN,Ou,abU,kM,qg]
theorem bI:prog.follows .mixedOrders=true:=by kernel_rfl
theorem jH{l:List Value}(hi:ops[i]? =some oi)(hd:oi.dst=some d)(hs:Region.noSelect ops=true)(hf:Region.free .any ops listed i=true)(hr:(Region.ready .any ops listed).contains i=true)(hQ:∀c a w,Q (.panic c) (a.put oi.dst v) w→Q (.panic c) a w)(hy:YieldsIf prog ops S oi v ⟨l.toArray,ds⟩)(hS:S w)(h:wpAnyH prog .any ops Q S fuel (listed.setIfInBounds i true) ⟨(l.set d v).toArray,ds⟩ w):wpAnyH prog .any ops Q S (fuel+1) listed ⟨l.toArray,ds⟩ w:=by
 refine wpAnyH_take hi hs hf hr hQ hy hS ?_;rw[hd];simpa[Act.put]using h
theorem ah(a:α)(l:List α)(b:α):(a::l).set 0 b=b::l:=rfl
theorem ag(a:α)(l:List α)(n:Nat)(b:α):(a::l).set (n+1) b=a::l.set n b:=rfl
theorem ak(i:Nat){l:List Value}(hS:S w)(h:wpAnyH prog .any ops Q S fuel (listed.setIfInBounds i true) ⟨(l.set d v).toArray,ds⟩ w)(hi:ops[i]? =some oi:=by rfl)(hd:oi.dst=some d:=by rfl)(hs:Region.noSelect ops=true:=by kernel_rfl)(hf:Region.free .any ops listed i=true:=by kernel_rfl)(hr:(Region.ready .any ops listed).contains i=true:=by kernel_rfl)(hy:YieldsIf prog ops S oi v ⟨l.toArray,ds⟩:=by exact(Or.inl ⟨by rfl,by intro x gu;(try have hA:=gu.1);(try have hB:=gu.2);(try have hC:=gu.2.1);(try have hD:=gu.2.2);(try have hE:=gu.2.2.1);(try have hF:=gu.2.2.2);(try have hG:=gu.2.2.2.1);go_simp;try (first|rfl|go_num)⟩))(hQ:∀c a w,Q (.panic c) (a.put oi.dst v) w→Q (.panic c) a w:=by exact fun _ _ _ h=>h):wpAnyH prog .any ops Q S (fuel+1) listed ⟨l.toArray,ds⟩ w:=jH hi hd hs hf hr hQ hy hS h
theorem g_(i1 i2:Nat){l:List Value}(hS:S w)(h:wpAnyH prog .any ops Q S fuel ((listed.setIfInBounds i1 true).setIfInBounds i2 true) ⟨((l.set d1 v1).set d2 v2).toArray,ds⟩ w)(hs:Region.noSelect ops=true:=by kernel_rfl)(hi1:ops[i1]? =some o1:=by rfl)(hd1:o1.dst=some d1:=by rfl)(hf1:Region.free .any ops listed i1=true:=by kernel_rfl)(hr1:(Region.ready .any ops listed).contains i1=true:=by kernel_rfl)(hy1:YieldsIf prog ops S o1 v1 ⟨(l).toArray,ds⟩:=by exact(Or.inl ⟨by rfl,by intro x gu;(try have hA:=gu.1);(try have hB:=gu.2);(try have hC:=gu.2.1);(try have hD:=gu.2.2);(try have hE:=gu.2.2.1);(try have hF:=gu.2.2.2);(try have hG:=gu.2.2.2.1);go_simp;try (first|rfl|go_num)⟩))(YU:∀c a w,Q (.panic c) (a.put o1.dst v1) w→Q (.panic c) a w:=by exact fun _ _ _ h=>h)(hi2:ops[i2]? =some o2:=by rfl)(hd2:o2.dst=some d2:=by rfl)(hf2:Region.free .any ops (listed.setIfInBounds i1 true) i2=true:=by kernel_rfl)(hr2:(Region.ready .any ops (listed.setIfInBounds i1 true)).contains i2=true:=by kernel_rfl)(hy2:YieldsIf prog ops S o2 v2 ⟨(l.set d1 v1).toArray,ds⟩:=by exact(Or.inl ⟨by rfl,by intro x gu;(try have hA:=gu.1);(try have hB:=gu.2);(try have hC:=gu.2.1);(try have hD:=gu.2.2);(try have hE:=gu.2.2.1);(try have hF:=gu.2.2.2);(try have hG:=gu.2.2.2.1);go_simp;try (first|rfl|go_num)⟩))(YV:∀c a w,Q (.panic c) (a.put o2.dst v2) w→Q (.panic c) a w:=by exact fun _ _ _ h=>h):wpAnyH prog .any ops Q S (fuel+2) listed ⟨l.toArray,ds⟩ w:=jH hi1 hd1 hs hf1 hr1 YU hy1 hS (jH hi2 hd2 hs hf2 hr2 YV hy2 hS h)
theorem iC(i1 i2 i3:Nat){l:List Value}(hS:S w)(h:wpAnyH prog .any ops Q S fuel (((listed.setIfInBounds i1 true).setIfInBounds i2 true).setIfInBounds i3 true) ⟨(((l.set d1 v1).set d2 v2).set d3 v3).toArray,ds⟩ w)(hs:Region.noSelect ops=true:=by kernel_rfl)(hi1:ops[i1]? =some o1:=by rfl)(hd1:o1.dst=some d1:=by rfl)(hf1:Region.free .any ops listed i1=true:=by kernel_rfl)(hr1:(Region.ready .any ops listed).contains i1=true:=by kernel_rfl)(hy1:YieldsIf prog ops S o1 v1 ⟨(l).toArray,ds⟩:=by exact(Or.inl ⟨by rfl,by intro x gu;(try have hA:=gu.1);(try have hB:=gu.2);(try have hC:=gu.2.1);(try have hD:=gu.2.2);(try have hE:=gu.2.2.1);(try have hF:=gu.2.2.2);(try have hG:=gu.2.2.2.1);go_simp;try (first|rfl|go_num)⟩))(YU:∀c a w,Q (.panic c) (a.put o1.dst v1) w→Q (.panic c) a w:=by exact fun _ _ _ h=>h)(hi2:ops[i2]? =some o2:=by rfl)(hd2:o2.dst=some d2:=by rfl)(hf2:Region.free .any ops (listed.setIfInBounds i1 true) i2=true:=by kernel_rfl)(hr2:(Region.ready .any ops (listed.setIfInBounds i1 true)).contains i2=true:=by kernel_rfl)(hy2:YieldsIf prog ops S o2 v2 ⟨(l.set d1 v1).toArray,ds⟩:=by exact(Or.inl ⟨by rfl,by intro x gu;(try have hA:=gu.1);(try have hB:=gu.2);(try have hC:=gu.2.1);(try have hD:=gu.2.2);(try have hE:=gu.2.2.1);(try have hF:=gu.2.2.2);(try have hG:=gu.2.2.2.1);go_simp;try (first|rfl|go_num)⟩))(YV:∀c a w,Q (.panic c) (a.put o2.dst v2) w→Q (.panic c) a w:=by exact fun _ _ _ h=>h)(hi3:ops[i3]? =some o3:=by rfl)(hd3:o3.dst=some d3:=by rfl)(hf3:Region.free .any ops ((listed.setIfInBounds i1 true).setIfInBounds i2 true) i3=true:=by kernel_rfl)(hr3:(Region.ready .any ops ((listed.setIfInBounds i1 true).setIfInBounds i2 true)).contains i3=true:=by kernel_rfl)(hy3:YieldsIf prog ops S o3 v3 ⟨((l.set d1 v1).set d2 v2).toArray,ds⟩:=by exact(Or.inl ⟨by rfl,by intro x gu;(try have hA:=gu.1);(try have hB:=gu.2);(try have hC:=gu.2.1);(try have hD:=gu.2.2);(try have hE:=gu.2.2.1);(try have hF:=gu.2.2.2);(try have hG:=gu.2.2.2.1);go_simp;try (first|rfl|go_num)⟩))(hQ3:∀c a w,Q (.panic c) (a.put o3.dst v3) w→Q (.panic c) a w:=by exact fun _ _ _ h=>h):wpAnyH prog .any ops Q S (fuel+3) listed ⟨l.toArray,ds⟩ w:=jH hi1 hd1 hs hf1 hr1 YU hy1 hS (jH hi2 hd2 hs hf2 hr2 YV hy2 hS (jH hi3 hd3 hs hf3 hr3 hQ3 hy3 hS h))
theorem aL(i1 i2 i3 i4:Nat){d4:Nat}{v4:Value}{o4:Oper}{l:List Value}(hS:S w)(h:wpAnyH prog .any ops Q S fuel ((((listed.setIfInBounds i1 true).setIfInBounds i2 true).setIfInBounds i3 true).setIfInBounds i4 true) ⟨((((l.set d1 v1).set d2 v2).set d3 v3).set d4 v4).toArray,ds⟩ w)(hs:Region.noSelect ops=true:=by kernel_rfl)(hi1:ops[i1]? =some o1:=by rfl)(hd1:o1.dst=some d1:=by rfl)(hf1:Region.free .any ops listed i1=true:=by kernel_rfl)(hr1:(Region.ready .any ops listed).contains i1=true:=by kernel_rfl)(hy1:YieldsIf prog ops S o1 v1 ⟨(l).toArray,ds⟩:=by exact(Or.inl ⟨by rfl,by intro x gu;(try have hA:=gu.1);(try have hB:=gu.2);(try have hC:=gu.2.1);(try have hD:=gu.2.2);(try have hE:=gu.2.2.1);(try have hF:=gu.2.2.2);(try have hG:=gu.2.2.2.1);go_simp;try (first|rfl|go_num)⟩))(YU:∀c a w,Q (.panic c) (a.put o1.dst v1) w→Q (.panic c) a w:=by exact fun _ _ _ h=>h)(hi2:ops[i2]? =some o2:=by rfl)(hd2:o2.dst=some d2:=by rfl)(hf2:Region.free .any ops (listed.setIfInBounds i1 true) i2=true:=by kernel_rfl)(hr2:(Region.ready .any ops (listed.setIfInBounds i1 true)).contains i2=true:=by kernel_rfl)(hy2:YieldsIf prog ops S o2 v2 ⟨(l.set d1 v1).toArray,ds⟩:=by exact(Or.inl ⟨by rfl,by intro x gu;(try have hA:=gu.1);(try have hB:=gu.2);(try have hC:=gu.2.1);(try have hD:=gu.2.2);(try have hE:=gu.2.2.1);(try have hF:=gu.2.2.2);(try have hG:=gu.2.2.2.1);go_simp;try (first|rfl|go_num)⟩))(YV:∀c a w,Q (.panic c) (a.put o2.dst v2) w→Q (.panic c) a w:=by exact fun _ _ _ h=>h)(hi3:ops[i3]? =some o3:=by rfl)(hd3:o3.dst=some d3:=by rfl)(hf3:Region.free .any ops ((listed.setIfInBounds i1 true).setIfInBounds i2 true) i3=true:=by kernel_rfl)(hr3:(Region.ready .any ops ((listed.setIfInBounds i1 true).setIfInBounds i2 true)).contains i3=true:=by kernel_rfl)(hy3:YieldsIf prog ops S o3 v3 ⟨((l.set d1 v1).set d2 v2).toArray,ds⟩:=by exact(Or.inl ⟨by rfl,by intro x gu;(try have hA:=gu.1);(try have hB:=gu.2);(try have hC:=gu.2.1);(try have hD:=gu.2.2);(try have hE:=gu.2.2.1);(try have hF:=gu.2.2.2);(try have hG:=gu.2.2.2.1);go_simp;try (first|rfl|go_num)⟩))(hQ3:∀c a w,Q (.panic c) (a.put o3.dst v3) w→Q (.panic c) a w:=by exact fun _ _ _ h=>h)(hi4:ops[i4]? =some o4:=by rfl)(hd4:o4.dst=some d4:=by rfl)(hf4:Region.free .any ops (((listed.setIfInBounds i1 true).setIfInBounds i2 true).setIfInBounds i3 true) i4=true:=by kernel_rfl)(hr4:(Region.ready .any ops (((listed.setIfInBounds i1 true).setIfInBounds i2 true).setIfInBounds i3 true)).contains i4=true:=by kernel_rfl)(hy4:YieldsIf prog ops S o4 v4 ⟨(((l.set d1 v1).set d2 v2).set d3 v3).toArray,ds⟩:=by exact(Or.inl ⟨by rfl,by intro x gu;(try have hA:=gu.1);(try have hB:=gu.2);(try have hC:=gu.2.1);(try have hD:=gu.2.2);(try have hE:=gu.2.2.1);(try have hF:=gu.2.2.2);(try have hG:=gu.2.2.2.1);go_simp;try (first|rfl|go_num)⟩))(hQ4:∀c a w,Q (.panic c) (a.put o4.dst v4) w→Q (.panic c) a w:=by exact fun _ _ _ h=>h):wpAnyH prog .any ops Q S (fuel+4) listed ⟨l.toArray,ds⟩ w:=jH hi1 hd1 hs hf1 hr1 YU hy1 hS (jH hi2 hd2 hs hf2 hr2 YV hy2 hS (jH hi3 hd3 hs hf3 hr3 hQ3 hy3 hS (jH hi4 hd4 hs hf4 hr4 hQ4 hy4 hS h)))
theorem gW{K:Act→World→Prop}(h:Oper.wp prog oi a w K Q)(hi:ops[i]? =some oi:=by rfl)(hw:Region.wanted oi (yielded ops a.tmps)=true:=by rfl):wpOp prog ops Q i K a w:=by refine wpOp_step hi fun K' hK=>?_;rw[aS hw];exact Oper.wp_mono hK h
theorem aD(i:Nat)(h:Oper.wp prog oi a w (fun a w=>S w∧wpAnyH prog .any ops Q S fuel (listed.setIfInBounds i true) a w) Q)(hi:ops[i]? =some oi:=by rfl)(hr:Region.ready .any ops listed=[i]:=by kernel_rfl)(hw:Region.wanted oi (yielded ops a.tmps)=true:=by rfl):wpAnyH prog .any ops Q S (fuel+1) listed a w:=by
 refine wpAnyH_all (rs:=[i]) hr (by simp) ?_;intro j hj;rw[iM]at hj;subst hj;exact gW h hi hw
theorem Ox(i j:Nat)(h1:wpOp prog ops Q i (fun a w=>S w∧wpAnyH prog .any ops Q S fuel (listed.setIfInBounds i true) a w) a w)(h2:wpOp prog ops Q j (fun a w=>S w∧wpAnyH prog .any ops Q S fuel (listed.setIfInBounds j true) a w) a w)(hr:Region.ready .any ops listed=[i,j]:=by kernel_rfl):wpAnyH prog .any ops Q S (fuel+1) listed a w:=by
 refine wpAnyH_all (rs:=[i,j]) hr (by simp) ?_;intro k hk;simp only[di,eU,eX]at hk;rcases hk with rfl|rfl
 ·exact h1
 ·exact h2
theorem aM(h:Q .normal a w)(hr:Region.ready .any ops listed=[]:=by kernel_rfl):wpAnyH prog .any ops Q S fuel listed a w:=wpAnyH_done hr h fuel
theorem vC{f:FuncId}{o:Oper}{l:List Value}{K:Act→World→Prop}(d:Nat)(ar:List Operand)(ats:Array TypeId)(ho:o.op= .call {callee:=.value (.func f),args:=ar.toArray,argTypes:=ats})(hd:o.dst=some d)(vs:List Value)(hx:ar.map (Act.eval ⟨l.toArray,ds⟩)=vs)(hf:(callFunc f vs.toArray).run prog u= .ok (.enter f vs.toArray) u)(R:Value→World→Prop)(hc:Calls prog f vs.toArray u fun e w'=>∃v,e= .returned v∧R v w')(h:∀v w',R v w'→K ⟨(l.set d v).toArray,ds⟩ w'):Oper.wp prog o ⟨l.toArray,ds⟩ u K Q:=by
 unfold Oper.wp execOp;have hx':ar.toArray.map (Act.eval ⟨l.toArray,ds⟩)=vs.toArray:=by rw[List.map_toArray,hx]
 simp only[ho,resolve,invoke,kN,Act.eval,hx',Deferred.ofValue,qg,kM,Array.append_empty,Array.empty_append,hf];rw[Oper.upon_enter];refine hc.mono ?_;rintro e w' ⟨v,rfl,hr⟩;have:=h v w' hr;simpa[hd,Act.put]using this
theorem bR{f:FuncId}{o:Oper}{l:List Value}{K:Act→World→Prop}{R:Value→World→Prop}(hc:Calls prog f vs.toArray u fun e w'=>∃v,e= .returned v∧R v w')(h:∀v w',R v w'→K ⟨(l.set d v).toArray,ds⟩ w')(ho:o.op= .call {callee:=.value (.func f),args:=ar.toArray,argTypes:=ats}:=by rfl)(hd:o.dst=some d:=by rfl)(hx:ar.map (Act.eval ⟨l.toArray,ds⟩)=vs:=by rfl)(hf:(callFunc f vs.toArray).run prog u= .ok (.enter f vs.toArray) u:=by kernel_rfl):Oper.wp prog o ⟨l.toArray,ds⟩ u K Q:=vC d ar ats ho hd vs hx hf R hc h
theorem d_{f:FuncId}{o:Oper}{l:List Value}{K:Act→World→Prop}{V:Value}{R:World→Prop}(hc:Calls prog f vs.toArray u fun e w'=>e= .returned V∧R w')(h:∀v w',v=V∧R w'→K ⟨(l.set d v).toArray,ds⟩ w')(ho:o.op= .call {callee:=.value (.func f),args:=ar.toArray,argTypes:=ats}:=by rfl)(hd:o.dst=some d:=by rfl)(hx:ar.map (Act.eval ⟨l.toArray,ds⟩)=vs:=by rfl)(hf:(callFunc f vs.toArray).run prog u= .ok (.enter f vs.toArray) u:=by kernel_rfl):Oper.wp prog o ⟨l.toArray,ds⟩ u K Q:=vC d ar ats ho hd vs hx hf (fun v w'=>v=V∧R w') (hc.mono fun _ _ h=>⟨V,h.1,rfl,h.2⟩) h
theorem dX(g a cap:Nat)(r:List aC)(w:World)(hr:aK w g r)(ha:a≤100000):
 Calls prog 166 #[.slice (some ⟨g,0,none⟩) r.length cap,.int .i64 (a:Int)] w fun e w'=>e= .returned (.tuple #[])∧aK w' g (ay r a)∧Ch (· =g) w w':=by
 by_cases h0:0<a
 ·by_cases h1:a<r.length
  ·obtain⟨b,rfl⟩:∃b,a=b+1:=⟨a-1,by omega⟩;have hc:r[b+1]? =some (r.getD (b+1) aQ):=by simp[List.getD,gK h1]
   have hc':r[b]? =some (r.getD b aQ):=by simp[List.getD,gK (show b<r.length by omega)]
   have hsp:ay r (b+1)=if r.getD (b+1) aQ=lN (r.getD b aQ)then(r.set b aQ).set (b+1) aQ else r:=by simp[ay,h1]
   generalize r.getD (b+1) aQ=c at*;generalize r.getD b aQ=c' at*;generalize ay r (b+1)=X at*;have HX:Hid _:=hsp;clear hsp;have i1:(b:Int)+1<(r.length:Int):=by omega
   have i2:b<r.length:=by omega
   have d0:decide ((b:Int)+1≤0)=false:=by simp
   have d1:decide ((r.length:Int)≤(b:Int)+1)=false:=by simp;omega
   have wb:IntKind.i64.wrap (b:Int)=b:=IntWalk.i64_in _ (by omega);have HR:Hid (aK w g r):=hr;clear hr;rw[show(((b+1:Nat):Nat):Int)=(b:Int)+1 from rfl];go_enter func166,ntmps166;go_wp2_with fail;have HS:aK ({w with drawn:=w.drawn+1}:World) g r∧Below w.heap.size w ({w with drawn:=w.drawn+1}:World):=⟨HR.o,⟨rfl,rfl,rfl,bE _,fun _ _=>rfl⟩⟩;refine wp_region_held (S:=fun x=>aK x g r∧Below w.heap.size w x) bI ?_;refine jH (i:=0) (d:=12) (v:=.slice (some ⟨g,0,none⟩) r.length cap) rfl rfl (by kernel_rfl) (by kernel_rfl) (by kernel_rfl) (fun _ _ _ h=>h) (Or.inl ⟨by rfl,by intro x gu;go_simp;try (first|rfl|go_num)⟩) HS ?_;simp only[nE,qz];refine jH (i:=1) (d:=13) (v:=.int .i64 ((b:Int)+1)) rfl rfl (by kernel_rfl) (by kernel_rfl) (by kernel_rfl) (fun _ _ _ h=>h) (Or.inl ⟨by rfl,by intro x gu;go_simp;try (first|rfl|go_num)⟩) HS ?_;simp only[nE,qz];refine jH (i:=2) (d:=14) (v:=.pointer (some ⟨g,(b+1)*7,none⟩)) rfl rfl (by kernel_rfl) (by kernel_rfl) (by kernel_rfl) (fun _ _ _ h=>h) (Or.inl ⟨by rfl,by intro x gu;go_simp;try (first|rfl|go_num)⟩) HS ?_;simp only[nE,qz];refine jH (i:=3) (d:=15) (v:=.agg (bO c)) rfl rfl (by kernel_rfl) (by kernel_rfl) (by kernel_rfl) (fun _ _ _ h=>h) (yieldsIf_load_mid (by rfl) 104 (.tmp 14) rfl g ((b+1)*7) rfl (cellV c) _ (fun x h=>aK.range h.1 hc) underlying104 rfl (by rw[cK];exact eF)) HS ?_;simp only[nE,qz];refine jH (i:=4) (d:=16) (v:=.slice (some ⟨g,0,none⟩) r.length cap) rfl rfl (by kernel_rfl) (by kernel_rfl) (by kernel_rfl) (fun _ _ _ h=>h) (Or.inl ⟨by rfl,by intro x gu;go_simp;try (first|rfl|go_num)⟩) HS ?_;simp only[nE,qz];refine jH (i:=5) (d:=17) (v:=.int .i64 ((b:Int)+1)) rfl rfl (by kernel_rfl) (by kernel_rfl) (by kernel_rfl) (fun _ _ _ h=>h) (Or.inl ⟨by rfl,by intro x gu;go_simp;try (first|rfl|go_num)⟩) HS ?_;simp only[nE,qz];refine jH (i:=6) (d:=18) (v:=.int .i64 (b:Int)) rfl rfl (by kernel_rfl) (by kernel_rfl) (by kernel_rfl) (fun _ _ _ h=>h) (Or.inl ⟨by rfl,by intro x gu;go_simp;try (first|rfl|go_num)⟩) HS ?_;simp only[nE,qz];refine jH (i:=7) (d:=19) (v:=.pointer (some ⟨g,b*7,none⟩)) rfl rfl (by kernel_rfl) (by kernel_rfl) (by kernel_rfl) (fun _ _ _ h=>h) (Or.inl ⟨by rfl,by intro x gu;go_simp;try (first|rfl|go_num)⟩) HS ?_;simp only[nE,qz];refine jH (i:=8) (d:=20) (v:=.agg (bO c')) rfl rfl (by kernel_rfl) (by kernel_rfl) (by kernel_rfl) (fun _ _ _ h=>h) (yieldsIf_load_mid (by rfl) 104 (.tmp 19) rfl g (b*7) rfl (cellV c') _ (fun x h=>aK.range h.1 hc') underlying104 rfl (by rw[cK];exact eF)) HS ?_;simp only[nE,qz];refine wpAnyH_all (rs:=[9]) (by kernel_rfl) (by simp) ?_;intro i hi;rw[iM]at hi;subst hi;refine wpOp_step rfl fun Kq hKq=>?_;rw[aS (by rfl)];refine vC (f:=167) 21 [.tmp 20] #[104] rfl rfl [.agg (bO c')] rfl (by kernel_rfl) (fun v w'=>v= .agg (bO (lN c'))∧Below w.heap.size w w') ((F4 c' _).mono fun e w' h=>⟨_,h.1,rfl,HS.2.trans (h.2)⟩) ?_;rintro v2 w1 ⟨rfl,b1⟩;have HS1:aK w1 g r∧Below w.heap.size w w1:=⟨HR.o.kept (b1.block g HR.o.lt),b1⟩;refine hKq _ _ ⟨HS1,?_⟩;clear hKq HS;simp only[nE,qz];refine jH (i:=10) (d:=22) (v:=.bool (decide (c=lN c'))) rfl rfl (by kernel_rfl) (by kernel_rfl) (by kernel_rfl) (fun _ _ _ h=>h) (Or.inl ⟨by rfl,fun x _=>zy (.tmp 15) (.tmp 21) rfl c (lN c') rfl rfl x⟩) HS1 ?_;simp only[nE,qz];refine wpAnyH_done (by kernel_rfl) ?_ _;have HR1:Hid (aK w1 g r):=HS1.1;have HB1:Hid _:=b1;clear HS1 b1 HR;by_cases hq:c=lN c'
   ·rw[aS hq]at HX;have dq:decide (c=lN c')=true:=by simp[hq]
    have HQ:Hid _:=hq;rw[dq];clear dq hq;have HC1:Hid (Ch (· =g) w w1):=Ch.of_below HB1.o;clear HB1;go_wp2_with (first|(go_at_call 141;refine(j5 _).mono ?_;rintro e w2 ⟨rfl,b2⟩;have HC1:Hid (Ch (· =g) w w2):=HC1.o.trans (Ch.of_below b2);have HR1:Hid (aK w2 g r):=HR1.o.kept (b2.block g HR1.o.lt);clear b2)|(refine pq _ rfl (.tmp 30) (.tmp 28) rfl g (b*7) b r aQ rfl rfl (bO aQ) rfl rfl HR1.o i2 ?_));intro u1 hu1 cu1 su1;have oz:Hid (Ch (· =g) w u1):=HC1.o.trans cu1;have HR2:Hid (aK u1 g (r.set b aQ)):=hu1;clear hu1 cu1 su1;go_wp2_with (refine pq _ rfl (.tmp 31) (.tmp 29) rfl g ((b+1)*7) (b+1) (r.set b aQ) aQ rfl rfl (bO aQ) rfl rfl HR2.o (by rw[qB];exact h1) ?_);intro u2 hu2 cu2 su2;go_wp2_with fail;go_end0;exact⟨rfl,by rw[HX.o];exact hu2,oz.o.trans cu2⟩
   ·rw[aG hq]at HX;have dq:decide (c=lN c')=false:=by simp[hq]
    rw[dq];clear dq hq;go_wp2_with fail;go_end0;exact⟨rfl,by rw[HX.o];exact HR1.o,Ch.of_below HB1.o⟩
  ·have e:ay r a=r:=by simp[ay,h1]
   rw[e];clear e;have d0:decide ((a:Int)≤0)=false:=by simp;omega
   have d1:decide (r.length≤a)=true:=by simp;omega
   have i1:(r.length:Int)≤(a:Int):=by omega
   have HR:Hid (aK w g r):=hr;clear hr;go_enter func166,ntmps166;go_wp2_with fail;exact gL (lF results166 _ _ _) rfl ⟨rfl,HR.o,Ch.refl _ _⟩
 ·have e:ay r a=r:=by simp[ay,h0]
  obtain rfl:a=0:=by omega
  rw[e];clear e;have HR:Hid (aK w g r):=hr;clear hr;go_enter func166,ntmps166;go_wp2_with fail;exact gL (lF results166 _ _ _) rfl ⟨rfl,HR.o,Ch.refl _ _⟩
abbrev bV:=@IntWalk.i64_in
abbrev fJ:=@wp_region_held
abbrev ug:=@yieldsIf_load_mid
abbrev kQ:=@Calls.quiet_of_same
abbrev qD:=@wpList_load_mid
end Go.Proofs.YtheibfffilomcabGreatDoor
