/-
  Feeds: scripts of Feed and of every query but Dump, on two terminals of different sizes in turn, are answered as the document says; at the end everything is asked.
  Conditions: the arguments hold together at most 1048576 values and letters; the tables that the row lists hold what the program's text lays.
  The texts beside this one were printed short by a program (own names cut, rows joined, laws of the library under short names): the claim must stay within its bytes.
-/
import Derived.Test.YtheibfffilomcaaGreatDoorTmaU
import Derived.Test.YtheibfffilomcaaGreatDoorCards
import Derived.Test.YtheibfffilomcaaGreatDoorTie
import Derived.Test.YtheibfffilomcaaGreatDoorHhU
import Derived.Test.YtheibfffilomcaaGreatDoorTab3U
import Derived.ShutString
import Derived.ChangeOld
import Derived.ChangeMaps5
import Derived.Deep.DeepHandedRow
set_option linter.all false
set_option maxRecDepth 100000
namespace Go.Proofs.YtheibfffilomcaaGreatDoor.feeds
open Go.ChangeShapes Go.WideShapes Go.ChangeAt Go.RowKit
theorem own:ownKnob Tryz.prog.godebug=none:=by kernel_rfl
theorem laidOut:laidOutB Tryz.prog=true:=by kernel_rfl
theorem bulk_le {H:Type}:∀(l:List (DataW H)) (d:DataW H),d∈l→Rows.uptoBulk d≤Rows.uptoBulkAll l:=by
 intro l;induction l with
 |nil=>intro d h;simp at h
 |cons x l ih=>
  intro d h;simp only[Rows.uptoBulkAll];rcases kK.1 h with rfl|h
  ·omega
  ·have:=ih d h;omega
theorem contract (H:Type) (enc:TypeId × Value→H) (W:World) (base:Nat) (args:Array Value) (ds gs:List (DataW H)) (before:List MemPlace)
 (hval0:∀(j:Nat) t v,Tryz.f3.params[j]? =some t→args[j]? =some v→Value.okWide Tryz.prog W .any base t v)
 (hW:DataW.Whole enc Tryz.prog Tryz.f3.params.toList Rows.feedsSpec.vars false W args.toList ds gs before) (hL:laidMetH Tryz.prog Rows.feedsUptoRow.laid W) (hk:Rows.uptoSmall H (ds++gs)=true):
 Calls Tryz.prog 3 args W fun e W'=>∃v,e= .returned v∧Rows.feedsSpec.post enc Tryz.prog Tryz.f3 false true false false W args v W':=by
 have htb:zm W:=Vw hL;have hval:∀(j:Nat) t v,Tryz.f3.params[j]? =some t→args[j]? =some v→Value.okWide Tryz.prog W .any base t v:=hval0;have hW':=hW;obtain⟨p,q,hA0,hV,rfl,hfz,hnd⟩:=hW;have hA:DataW.TrodAll enc Tryz.prog W 0 (fun _=>true) true Tryz.f3.params.toList args.toList ds p:=hA0;rw[Tryz.params3]at hA hval;obtain⟨v0,vs0,d0,ds0,p0,q0,hargs,rfl,rfl,h0,r0⟩:=trodAll_cons hA;obtain⟨v1,vs1,d1,ds1,p1,q1,rfl,rfl,rfl,h1,r1⟩:=trodAll_cons r0;obtain⟨v2,vs2,d2,ds2,p2,q2,rfl,rfl,rfl,h2,r2⟩:=trodAll_cons r1;obtain⟨rfl,rfl,rfl⟩:=trodAll_nil r2;obtain rfl:args= #[v0,v1,v2]:=by cases args;simp_all
 obtain⟨rfl,rfl⟩:=trodVars_none hV;simp only[gp]at hk;have hk':=pV hk;have k2:=h2;have lt2:∀x∈p2,x.block<W.heap.size:=by obtain⟨m,hm⟩:=k2;exact DataW.trod_lt m _ _ _ hm
 have e2:Rows.uptoBulk d2≤1048576:=iD (bulk_le _ d2 (by simp)) hk';obtain⟨a0,rfl,rfl,rfl,w0⟩:=open_int Tryz.underlying3 (hval 0 3 v0 rfl rfl) h0;obtain⟨a1,rfl,rfl,rfl,w1⟩:=open_int Tryz.underlying3 (hval 1 3 v1 rfl rfl) h1;obtain⟨r2,n2,c2,rfl⟩:=okWide_slice Tryz.underlying22 (hval 2 22 v2 rfl rfl);obtain⟨t2,rfl,hb2,hr2⟩:∃T:List H8,T.length=n2∧T.length+eB T≤1048576∧∀i o,T[i]? =some o→∃g off,r2=some ⟨g,off,none⟩∧g<W.heap.size∧W.rangeAt g (off+i*6) o.v:=by
  obtain⟨fuel,hf⟩:=h2;rcases aaO hf with hcs|⟨a,cap,ops,hcs,hcell,hb⟩
  ·simp[Value.cells]at hcs;obtain⟨rfl,rfl,rfl⟩:=hcs;exact⟨[],rfl,by simp[eB],fun i o hi=>by simp at hi⟩
  ·simp[Value.cells]at hcs;obtain⟨rfl,rfl,rfl⟩:=hcs;refine⟨ops,rfl,iD hb e2,fun i o ho=>?_⟩;have hpos:0<ops.length:=by have:=(gJ.1 ho).1;omega
   have h00:=hcell 0 _ (eG hpos) 0 _ rfl;obtain⟨b,off,spot⟩:=a;have hspot:spot=none:=by simpa[Addr.add]using World.cell?_spot h00
   subst hspot;have hadd:∀j,(⟨b,off,none⟩:Addr).add j=⟨b,off+j,none⟩:=fun j=>by unfold Addr.add;split<;>simp_all
   have hc:∀j v,o.v[j]? =some v→W.cell? ⟨b,off+i*6+j,none⟩=some v:=fun j v hv=>by have:=hcell i o ho j v hv;rw[hadd, ←Nat.add_assoc]at this;exact this
   exact⟨b,off,rfl,F4 _ _ (hc 0 _ rfl),hc⟩
 clear hA0 hval0;refine(TY a0 a1 t2 r2 c2 W htb (by omega) (by omega) hr2).mono fun e W' ⟨he,iB⟩=>?_;subst he;exact⟨_,rfl,_,_,_,[],_,[],hW',trodAll_mk1 (shut_bool Tryz.underlying4 _),(trodAll_cons_mk (shut_int Tryz.underlying3 w0) (trodAll_cons_mk (shut_int Tryz.underlying3 w1) (trodAll_cons_mk (Below.trod laidOut (by kernel_rfl) (pV (by kernel_rfl)) k2 iB lt2) trodAll_mk0))),rfl,iB.frame _,fun h=>by cases h⟩
def uD (arr:Array Value):Obj→Obj
 | .cells _ t frozen=>.cells arr t frozen
 |o=>o
theorem laid_met (os:Os):laidMet Tryz.prog Rows.feedsUptoRow.laid (({World.holding Tryz.prog os ⟨#[],#[],[]⟩with heap:=((((((World.holding Tryz.prog os ⟨#[],#[],[]⟩).heap.modify 0 (uD iT)).modify 1 (uD fT)).modify 2 (uD eY)).modify 5 (uD EE)).modify 6 (uD EF)).modify 4 (uD BJ)}:World).forCall (fun _ _=>0) ⟨#[],#[.int .i64 0,.int .i64 0,.slice none 0 0],[]⟩).memory:=
 laidMet_of_run' 8 (by kernel_rfl) (by kernel_rfl)
theorem reads (os:Os) {H:Type} (enc:TypeId × Value→H):∃places,DataW.whole enc Tryz.prog (({World.holding Tryz.prog os ⟨#[],#[],[]⟩with heap:=((((((World.holding Tryz.prog os ⟨#[],#[],[]⟩).heap.modify 0 (uD iT)).modify 1 (uD fT)).modify 2 (uD eY)).modify 5 (uD EE)).modify 6 (uD EF)).modify 4 (uD BJ)}:World).forCall (fun _ _=>0) ⟨#[],#[.int .i64 0,.int .i64 0,.slice none 0 0],[]⟩).memory Tryz.f3.params.toList Rows.feedsSpec.vars false #[Value.int .i64 0,.int .i64 0,.slice none 0 0].toList 8=some ([.lit (.int .i64 0),.lit (.int .i64 0),.nil],[],places):=
 ⟨[],by kernel_rfl⟩
theorem liftedUpto (os:Os) (started:os.Started) (H:Type) (enc:TypeId × Value→H) (F:Stop.Interp):
 ReturnsInHanded {} Tryz.checked os 3 .any ((Rows.OpenSpec.upto Rows.feedsSpec).preRow enc Tryz.prog Tryz.f3 Rows.feedsUptoRow.domain false Rows.feedsUptoRow.laid) (((Rows.OpenSpec.upto Rows.feedsSpec).at F).post enc Tryz.prog Tryz.f3 false true false false):=by
 obtain⟨places,hx⟩:=reads os enc;refine returnsInHanded_of_row (C:=Tryz.checked) (s:=Rows.OpenSpec.upto Rows.feedsSpec) own started (by kernel_rfl) Tryz.func3
  (witness_row_at (enc:=enc) (C:=Tryz.checked) false ({World.holding Tryz.prog os ⟨#[],#[],[]⟩with heap:=((((((World.holding Tryz.prog os ⟨#[],#[],[]⟩).heap.modify 0 (uD iT)).modify 1 (uD fT)).modify 2 (uD eY)).modify 5 (uD EE)).modify 6 (uD EF)).modify 4 (uD BJ)}:World) #[.int .i64 0,.int .i64 0,.slice none 0 0] rfl (by kernel_rfl) (by kernel_rfl) (by kernel_rfl)
    (OpenSpec.preRow_of_cond 8 hx (by kernel_rfl) (fun k hk=>by cases hk;kernel_rfl) (by kernel_rfl) (laid_met os))) ?_
 intro W base args ds gs before hval hW _ hcond _ hL _ _;exact contract H enc W base args ds gs before hval hW hL (hcond _ rfl)
theorem alone:({Rows.feedsUptoRow with leaving:=false}:OpenClaim).holds Tryz.pinned (Rows.OpenSpec.upto Rows.feedsSpec):=
 OpenClaim.holds_of_cond 3 Tryz.f3 rfl rfl rfl rfl rfl rfl rfl ⟨rfl,rfl,rfl,rfl,rfl⟩ rfl rfl rfl rfl rfl (by kernel_rfl) Tryz.func3 (by kernel_rfl)
  (pV (by kernel_rfl)) (by unfold Func.isWrapper;first|(rw[ak (by decide+kernel)];kernel_rfl)|(rw[ai (by decide+kernel)];exact⟨rfl,rfl⟩))
  (fun os started H enc _ F=>by rw[OpenClaim.pre_eq_preRow];exact liftedUpto os started H enc F)
theorem saidUpto:Rows.FeedsUptoSaid:=zf rfl rfl rfl (by kernel_rfl) alone
theorem plain (f:FuncId) (fn:Func) (hf:Tryz.pinned.checked.prog.funcNamed "slate/slatelaw.Feeds" =some f) (hfn:Tryz.pinned.checked.prog.funcs[f]? =some fn):
 false=Tryz.pinned.checked.prog.looks []∧∀(j:Nat) t,fn.params[j]? =some t→Tryz.pinned.checked.prog.wantsStandIn t=false:=by
 obtain rfl:f=3:=gz ((show Tryz.prog.funcNamed "slate/slatelaw.Feeds" =some 3 by kernel_rfl).symm.trans hf) |>.symm;obtain rfl:fn=Tryz.f3:=(gz (Tryz.func3.symm.trans hfn)).symm;refine⟨by kernel_rfl,fun j t ht=>?_⟩;rw[Tryz.params3]at ht;have:t=3∨t=3∨t=22:=by simpa using Array.mem_of_getElem? ht
 rcases this with rfl|rfl|rfl
 ·exact(show Tryz.prog.wantsStandIn 3=false by kernel_rfl)
 ·exact(show Tryz.prog.wantsStandIn 3=false by kernel_rfl)
 ·exact(show Tryz.prog.wantsStandIn 22=false by kernel_rfl)
theorem cardUpto:Rows.FeedsUptoCardSaid:=
 wP .later _ _ _ _ saidUpto (by kernel_rfl) feedsUpto_row_tie rfl ⟨rfl,rfl⟩ (by kernel_rfl) rfl plain (by kernel_rfl)
end Go.Proofs.YtheibfffilomcaaGreatDoor.feeds
