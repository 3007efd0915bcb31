/-
  Walls: of several texts each is drawn as it is alone.
  Conditions: the tables that the row lists hold what the program's text lays.
  The texts beside this one were printed short by a program (own names cut, rows joined, laws of the library under short names): the claim must stay within its bytes.
-/
import Derived.Test.YtheibfffilomcabGreatDoorEvnU
import Derived.Test.YtheibfffilomcabGreatDoorK28
import Derived.Test.YtheibfffilomcabGreatDoorCards
import Derived.Test.YtheibfffilomcabGreatDoorTie
import Derived.Test.YtheibfffilomcabGreatDoorHhU
import Derived.ShutString
import Derived.ChangeOld
import Derived.ChangeMaps5
import Derived.Deep.DeepHandedRow
import Derived.SizedLaws
import Derived.Conc.LeavingOf
set_option linter.all false
set_option maxRecDepth 100000
namespace Go.Proofs.YtheibfffilomcabGreatDoor.walls
open Go.ChangeShapes Go.WideShapes Go.ChangeAt Go.RowKit Go.Conc
theorem own:ownKnob Tryz.prog.godebug=none:=by kernel_rfl
theorem laidOut:laidOutB Tryz.prog=true:=by kernel_rfl
theorem bodyF3:Tryz.f3.body=some lI:=rfl
theorem nt3:Tryz.f3.ntmps=74:=rfl
theorem leaving_of_row {H:Type} {enc:TypeId × Value→H} {a:Assume} {C:Checked} {os:Os} {f:FuncId} {fn:Func} {s:OpenSpec} {F:Stop.Interp} {conds:List PathCond} {apart fresh handsOn again:Bool} {laid:List (String × DataW Unit)}
 (own:ownKnob C.prog.godebug=none) (started:os.Started) (hfn:C.prog.funcs[f]? =some fn)
 (witness:∃(w:World) (tape:Tape) (i:Input),w.os=os∧(w.forCall tape i).Shaped C.prog∧i.vars=[]∧Input.okWide C.prog (w.forCall tape i) .any w.heap.size f i∧
   s.preRow enc C.prog fn conds apart laid (w.forCall tape i).memory i.args∧a.holds C.prog (lone (Frame.enter C.prog f i.args .normal) [] (w.forCall tape i)))
 (runs:∀(W:World) (base:Nat) (args:Array Value) (ds gs:List (DataW H)) (before:List MemPlace),
   (∀(j:Nat) t v,fn.params[j]? =some t→args[j]? =some v→Value.okWide C.prog W .any base t v)→
   DataW.Whole enc C.prog fn.params.toList s.vars apart W args.toList ds gs before→
   (∀k,s.cond=some k→k H (ds++gs)=true)→
   (DataW.weightsEach C.prog (fn.params.toList++s.bare.plain.varTypes C.prog) (ds++gs)).all (· ≤reachBytes)=true→
   laidMetH C.prog laid W→
   W.ShapedOpen C.prog→
   ∃N last o w' t',runNT C.prog (N+1) (solo (G (Frame.enter C.prog f args .normal) []) W) #[]=(.ended o w',t')∧runN C.prog N (solo (G (Frame.enter C.prog f args .normal) []) W)= .next last∧Go.step C.prog last= .ended o w'∧
    Conc.Good C.prog (fun v W'=>(s.at F).post enc C.prog fn apart fresh handsOn again W args v W') last o w' t'):
 ReturnsInLeavingWide a C os f .any (s.preRow enc C.prog fn conds apart laid) ((s.at F).post enc C.prog fn apart fresh handsOn again):=by
 refine returnsInLeavingWide_of_good own started witness ?_;intro w tape i _ hsh _ hok hpre hholds;obtain⟨_,_,_,fn',hfn',_,_,_,_,hval⟩:=hok;have e:fn'=fn:=dI (hfn'.symm.trans hfn);subst e;obtain⟨⟨hp,hl⟩,hz⟩:=hpre;obtain⟨ds,gs,before,hw,hc,hk⟩:=OpenSpec.pre_parts hp;have hw':=DataW.Whole.of_heap (w':=w.forCall tape i) (by rfl) hw;obtain⟨N,last,o,w',t',h1,h2,h3,h4⟩:=runs (w.forCall tape i) w.heap.size i.args ds gs before hval hw' hk (hz.weights hw) (hl.of_heap (by rfl)) hsh;exact⟨N,last,o,w',t',h1,h2,h3,h4.mono fun v hp=>ChangeSpec.post_blind hp⟩
theorem open_size {H:Type} {enc:TypeId × Value→H} {W:World} {r:Reach} {b0 base:Nat} {sp:Nat→Bool} {held:Bool} {v:Value} {d:DataW H} {ps:List MemPlace} (hval:Value.okWide Tryz.prog W r b0 23 v) (hd:DataW.Trod enc Tryz.prog W base sp held 23 v d ps):
 ∃a b,v= .agg #[.int .i64 a,.int .i64 b]∧(Lit.int .i64 a).wf=true∧(Lit.int .i64 b).wf=true:=by
 obtain⟨cs,rfl,hcs⟩:=okWide_struct Tryz.underlying23 hval;obtain⟨fuel,hf⟩:=hd;have hf':DataW.trod enc Tryz.prog W base sp held fuel 23 cs.toList=some (d,ps):=by simpa[Value.cells]using hf
 obtain⟨y0,y1,n,_,hl,h0,h1⟩:=trod_struct2 Tryz.underlying23 hf';obtain⟨a,ha,_,wa⟩:=DataW.trod_int Tryz.underlying3 h0;obtain⟨b,hb,_,wb⟩:=DataW.trod_int Tryz.underlying3 h1;have e3:Tryz.prog.cellsOf 3=1:=by kernel_rfl
 have e41:Tryz.prog.cellsOf 23=2:=by kernel_rfl
 rw[e41]at hl;refine⟨a,b,?_,wa,wb⟩;have ha':(cs.toList.drop 0).take 1=[.int .i64 a]:=e3▸ha;have hb':(cs.toList.drop 1).take 1=[.int .i64 b]:=e3▸hb;obtain⟨l⟩:=cs;simp only at hl ha' hb'
 match l,hl,ha',hb' with
 | [x,y],_,ha',hb'=>simp at ha' hb';subst ha' hb';rfl
theorem strs_weight {H:Type} (P:Program) (e:TypeId) (ss:List ByteArray):∀s∈ss,s.data.toList.length∈DataW.weightsAll P e (strs (H:=H) ss):=by
 induction ss with
 |nil=>intro s hs;cases hs
 |cons t ss ih=>
  intro s hs;simp only[strs,List.map_cons,DataW.weightsAll,oq];rcases di.1 hs with rfl|hs
  ·left;simp[DataW.weights]
  ·right;exact ih s hs
theorem contract (H:Type) (enc:TypeId × Value→H) (W:World) (base:Nat) (args:Array Value) (ds gs:List (DataW H)) (before:List MemPlace)
 (hval0:∀(j:Nat) t v,Tryz.f3.params[j]? =some t→args[j]? =some v→Value.okWide Tryz.prog W .any base t v)
 (hW:DataW.Whole enc Tryz.prog Tryz.f3.params.toList Rows.wallsSpec.vars false W args.toList ds gs before) (hL:laidMetH Tryz.prog Rows.wallsRow.laid W) (hsh:W.ShapedOpen Tryz.prog) (ts:List TypeId) (hk0:(DataW.weightsEach Tryz.prog (Tryz.f3.params.toList++ts) (ds++gs)).all (· ≤reachBytes)=true):
 ∃N last o w' t',runNT Tryz.prog (N+1) (solo (G (Frame.enter Tryz.prog 3 args .normal) []) W) #[]=(.ended o w',t')∧runN Tryz.prog N (solo (G (Frame.enter Tryz.prog 3 args .normal) []) W)= .next last∧Go.step Tryz.prog last= .ended o w'∧Conc.Good Tryz.prog (fun v W'=>Rows.wallsSpec.post enc Tryz.prog Tryz.f3 false true false false W args v W') last o w' t':=by
 have htb:iE W:=RN hL;have hval:∀(j:Nat) t v,Tryz.f3.params[j]? =some t→args[j]? =some v→Value.okWide Tryz.prog W .any base t v:=hval0;have hW':=hW;obtain⟨p,q,hA0,hV,rfl,hfz,hnd⟩:=hW;have hA:DataW.TrodAll enc Tryz.prog W 0 (fun _=>true) true Tryz.f3.params.toList args.toList ds p:=hA0;have hk:(DataW.weightsEach Tryz.prog (Tryz.f3.params.toList++ts) (ds++gs)).all (· ≤reachBytes)=true:=hk0;rw[Tryz.params3]at hA hval hk;obtain⟨v0,vs0,d0,ds0,p0,q0,hargs,rfl,rfl,h0,r0⟩:=trodAll_cons hA;obtain⟨v1,vs1,d1,ds1,p1,q1,rfl,rfl,rfl,h1,r1⟩:=trodAll_cons r0;obtain⟨rfl,rfl,rfl⟩:=trodAll_nil r1;obtain rfl:args= #[v0,v1]:=by cases args;simp_all
 obtain⟨rfl,rfl⟩:=trodVars_none hV;have k0:=h0;have OV:∀x∈p0,x.block<W.heap.size:=by obtain⟨m,hm⟩:=k0;exact DataW.trod_lt m _ _ _ hm
 have k1:=h1;have lt1:∀x∈p1,x.block<W.heap.size:=by obtain⟨m,hm⟩:=k1;exact DataW.trod_lt m _ _ _ hm
 obtain⟨a0,b0,rfl,wa0,wb0⟩:=open_size (hval 0 23 v0 rfl rfl) h0;obtain⟨r1,n1,c1,rfl⟩:=okWide_slice Tryz.underlying24 (hval 1 24 v1 rfl rfl);obtain⟨t1,hn1,hr1,hs1⟩:∃T:List ByteArray,(T.length=n1∧n1≤140737488355328)∧NK W r1 T∧∀s∈T,s.size≤140737488355328:=by
  obtain⟨fuel,hf⟩:=h1;rcases open_strings Tryz.underlying24 Tryz.underlying9 (by kernel_rfl) hf with⟨hcs,_⟩|⟨x,l,c,zs,hcs,_,hl,hm,hz,hx,hcell,hwz⟩
  ·simp[Value.cells]at hcs;obtain⟨rfl,rfl,rfl⟩:=hcs;exact⟨[],⟨rfl,by omega⟩,fun j t hj=>by simp at hj,fun s hs=>by simp at hs⟩
  ·simp[Value.cells]at hcs;obtain⟨rfl,rfl,rfl⟩:=hcs;have hz':zs.length=c1:=by simpa using hz
   have hd:d1= .slice (strs (zs.take n1)) (strs (zs.drop n1)):=congrArg Prod.fst hx;have hbig:=sized_slice hk (j:=1) (t:=24) (e:=9) (elems:=strs (zs.take n1)) (spare:=strs (zs.drop n1)) rfl (by rw[←hd];rfl) Tryz.underlying24;have hby:Tryz.prog.bytesOf 9=16:=by kernel_rfl
   rw[hby]at hbig;have hl1:(strs (H:=H) (zs.take n1)).length=n1:=by simp[strs];omega
   have hrb:reachBytes=140737488351232:=rfl;rw[hl1,hrb]at hbig
   have hsh:n1≤140737488355328∧∀s∈zs.take n1,s.size≤140737488355328:=⟨by omega,fun s hs=>by
    have hmem:s.data.toList.length∈DataW.weights Tryz.prog 24 (.slice (strs (H:=H) (zs.take n1)) (strs (zs.drop n1))):=by simp only[DataW.weights,Tryz.underlying24];exact List.mem_cons_of_mem _ (List.mem_append_left _ (strs_weight Tryz.prog 9 _ s hs))
    have hq:=List.all_eq_true.1 hk _ (DataW.weights_mem_each (j:=1) (t:=24) (d:=.slice (strs (H:=H) (zs.take n1)) (strs (zs.drop n1))) rfl (by rw[←hd];rfl) _ hmem);simp only[decide_eq_true_eq,hrb,Array.length_toList]at hq;show s.data.size≤_
    omega⟩
   refine⟨zs.take n1,⟨by rw[jJ];omega,hsh.1⟩,fun j t hj=>?_,hsh.2⟩;have hjn:j<n1:=by have:=(ja.1 hj).1;rw[jJ]at this;omega
   have hcj:=hcell j (by omega);obtain⟨b,off,spot⟩:=x;have hspot:spot=none:=by simpa[Addr.add]using World.cell?_spot (hcell 0 (by omega))
   subst hspot;have hadd:(⟨b,off,none⟩:Addr).add j=⟨b,off+j,none⟩:=by unfold Addr.add;split<;>simp_all
   have ht:zs.getD j ByteArray.empty=t:=by rw[qA,aS hjn]at hj;simp[List.getD,hj]
   rw[hadd,ht]at hcj;exact⟨b,off,rfl,DT _ _ hcj,hcj⟩
 clear hA0 hval0;obtain⟨rfl,hn1'⟩:=hn1;have hg:=K9 hsh;have hin:In3 W a0 b0 r1 c1 t1:=⟨bounds_i64 wa0,bounds_i64 wb0,hr1,fun t ht=>fA (hs1 t ht) (by decide),hg,htb,by obtain⟨o,ho,_⟩:=hg 6 (by omega);have:=(kP.1 ho).1;omega⟩;have hK:Kn 74 [(0,.agg #[.int .i64 a0,.int .i64 b0]),(1,.slice r1 t1.length c1)] ⟨#[.agg #[.int .i64 a0,.int .i64 b0],.slice r1 t1.length c1]++Array.replicate (Tryz.f3.ntmps-2) undef,[]⟩:=by refine⟨by simp[nt3],rfl,fun x hx=>?_⟩;simp only[di,eU,eX]at hx;rcases hx with rfl|rfl<;>simp
 obtain⟨N,last,o,w',t',g1,g2,g3,g4⟩:=Je hin hK;rw[enter_at _ Tryz.func3 bodyF3];refine⟨N,last,o,w',t',g1,g2,g3,g4.mono fun v hv=>?_⟩;have nI:Below W.heap.size W w':=⟨hv.os,hv.tape,hv.o,hv.size,hv.keep⟩;obtain rfl:=hv.v;exact⟨_,_,_,[],_,[],hW',trodAll_mk1 (shut_bool Tryz.underlying4 _),(trodAll_cons_mk (Below.trod laidOut (by kernel_rfl) (nG (by kernel_rfl)) k0 nI OV) (trodAll_cons_mk (Below.trod laidOut (by kernel_rfl) (nG (by kernel_rfl)) k1 nI lt1) trodAll_mk0)),rfl,nI.frame _,fun h=>by cases h⟩
def qp (arr:Array Value):Obj→Obj
 | .cells _ t frozen=>.cells arr t frozen
 |o=>o
theorem laid_met (os:Os):laidMet Tryz.prog Rows.wallsRow.laid (({World.holding Tryz.prog os ⟨#[],#[],[]⟩with heap:=((((((World.holding Tryz.prog os ⟨#[],#[],[]⟩).heap.modify 0 (qp eZ)).modify 1 (qp dx)).modify 2 (qp bU)).modify 5 (qp Cn)).modify 6 (qp Co)).modify 4 (qp zo)}:World).forCall (fun _ _=>0) ⟨#[],#[.agg #[.int .i64 0,.int .i64 0],.slice none 0 0],[]⟩).memory:=
 laidMet_of_run' 8 (by kernel_rfl) (by kernel_rfl)
theorem reads (os:Os) {H:Type} (enc:TypeId × Value→H):∃places,DataW.whole enc Tryz.prog (({World.holding Tryz.prog os ⟨#[],#[],[]⟩with heap:=((((((World.holding Tryz.prog os ⟨#[],#[],[]⟩).heap.modify 0 (qp eZ)).modify 1 (qp dx)).modify 2 (qp bU)).modify 5 (qp Cn)).modify 6 (qp Co)).modify 4 (qp zo)}:World).forCall (fun _ _=>0) ⟨#[],#[.agg #[.int .i64 0,.int .i64 0],.slice none 0 0],[]⟩).memory Tryz.f3.params.toList Rows.wallsSpec.vars false #[Value.agg #[.int .i64 0,.int .i64 0],.slice none 0 0].toList 8=some ([.agg [.lit (.int .i64 0),.lit (.int .i64 0)],.nil],[],places):=
 ⟨[],by kernel_rfl⟩
theorem lifted (os:Os) (started:os.Started) (H:Type) (enc:TypeId × Value→H) (F:Stop.Interp):
 ReturnsInLeavingWide {} Tryz.checked os 3 .any ((OpenSpec.ofChange Rows.wallsSpec).preRow enc Tryz.prog Tryz.f3 Rows.wallsRow.domain false Rows.wallsRow.laid) (((OpenSpec.ofChange Rows.wallsSpec).at F).post enc Tryz.prog Tryz.f3 false true false false):=by
 obtain⟨places,hx⟩:=reads os enc;refine leaving_of_row (C:=Tryz.checked) (s:=OpenSpec.ofChange Rows.wallsSpec) own started Tryz.func3
  (witness_row_at (enc:=enc) (C:=Tryz.checked) false ({World.holding Tryz.prog os ⟨#[],#[],[]⟩with heap:=((((((World.holding Tryz.prog os ⟨#[],#[],[]⟩).heap.modify 0 (qp eZ)).modify 1 (qp dx)).modify 2 (qp bU)).modify 5 (qp Cn)).modify 6 (qp Co)).modify 4 (qp zo)}:World) #[.agg #[.int .i64 0,.int .i64 0],.slice none 0 0] rfl (by kernel_rfl) (by kernel_rfl) (by kernel_rfl)
    (OpenSpec.preRow_of_cond 8 hx (by kernel_rfl) (fun k hk=>by cases hk) (by kernel_rfl) (laid_met os))) ?_
 intro W base args ds gs before hval hW _ hsz hL hsh;exact contract H enc W base args ds gs before hval hW hL hsh _ hsz
theorem said:Rows.WallsSaid:=
 OpenClaim.holds_of_wide_leaving 3 Tryz.f3 rfl rfl rfl rfl rfl rfl rfl ⟨rfl,rfl,rfl,rfl,rfl⟩ rfl rfl rfl rfl rfl (by kernel_rfl) Tryz.func3 (by kernel_rfl)
  (nG (by kernel_rfl)) (by unfold Func.isWrapper;first|(rw[aS (by decide+kernel)];kernel_rfl)|(rw[aG (by decide+kernel)];exact⟨rfl,rfl⟩))
  (fun os started H enc _=>by rw[OpenClaim.pre_eq_preRow];exact lifted os started H enc default)
theorem plain (f:FuncId) (fn:Func) (hf:Tryz.pinned.checked.prog.funcNamed "slate/slatekeep.Walls" =some f) (hfn:Tryz.pinned.checked.prog.funcs[f]? =some fn):
 false=Tryz.pinned.checked.prog.looks []∧∀(j:Nat) t,fn.params[j]? =some t→Tryz.pinned.checked.prog.wantsStandIn t=false:=by
 obtain rfl:f=3:=dI ((show Tryz.prog.funcNamed "slate/slatekeep.Walls" =some 3 by kernel_rfl).symm.trans hf) |>.symm;obtain rfl:fn=Tryz.f3:=(dI (Tryz.func3.symm.trans hfn)).symm;refine⟨by kernel_rfl,fun j t ht=>?_⟩;rw[Tryz.params3]at ht;have:t=23∨t=24:=by simpa using Array.mem_of_getElem? ht
 rcases this with rfl|rfl
 ·exact(show Tryz.prog.wantsStandIn 23=false by kernel_rfl)
 ·exact(show Tryz.prog.wantsStandIn 24=false by kernel_rfl)
theorem card:Rows.WallsCardSaid:=
 xP .later _ _ _ _ said (by kernel_rfl) walls_row_tie rfl ⟨rfl,rfl⟩ (by kernel_rfl) rfl plain (by kernel_rfl)
end Go.Proofs.YtheibfffilomcabGreatDoor.walls
