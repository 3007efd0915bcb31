/-
  Dumps: behind any text the Dump of a terminal is, byte by byte, what the document says; a size that it refuses is refused.
  Conditions: the arguments hold together at most 1048576 values and letters; the tables that the row lists hold what the program's text lays.
  The texts beside this one were printed short by a program (own names cut, rows joined, laws of the library under short names): the claim must stay within its bytes.
-/
import Derived.Test.YtheibfffilomcaaGreatDoorTmaU
import Derived.Test.YtheibfffilomcaaGreatDoorCards
import Derived.Test.YtheibfffilomcaaGreatDoorTie
import Derived.Test.YtheibfffilomcaaGreatDoorTab3U
import Derived.ShutString
import Derived.ChangeOld
import Derived.ChangeMaps5
import Derived.Deep.DeepHandedRow
set_option linter.all false
set_option maxRecDepth 100000
namespace Go.Proofs.YtheibfffilomcaaGreatDoor.dumps
open Go.ChangeShapes Go.WideShapes Go.ChangeAt Go.RowKit
theorem own:ownKnob Tryz.prog.godebug=none:=by kernel_rfl
theorem laidOut:laidOutB Tryz.prog=true:=by kernel_rfl
theorem bulk_le {H:Type}:∀(l:List (DataW H)) (d:DataW H),d∈l→Rows.uptoBulk d≤Rows.uptoBulkAll l:=by
 intro l;induction l with
 |nil=>intro d h;simp at h
 |cons x l ih=>
  intro d h;simp only[Rows.uptoBulkAll];rcases kK.1 h with rfl|h
  ·omega
  ·have:=ih d h;omega
theorem short_str {H:Type} {s:ByteArray} (h:Rows.uptoBulk (H:=H) (.lit (.string s.data.toList))≤1048576):s.size≤1048576:=by simp only[Rows.uptoBulk,Array.length_toList]at h;have:s.size=s.data.size:=rfl;omega
theorem contract (H:Type) (enc:TypeId × Value→H) (W:World) (base:Nat) (args:Array Value) (ds gs:List (DataW H)) (before:List MemPlace)
 (hval0:∀(j:Nat) t v,Tryz.f4.params[j]? =some t→args[j]? =some v→Value.okWide Tryz.prog W .any base t v)
 (hW:DataW.Whole enc Tryz.prog Tryz.f4.params.toList Rows.dumpsSpec.vars false W args.toList ds gs before) (hL:laidMetH Tryz.prog Rows.dumpsUptoRow.laid W) (hk:Rows.uptoSmall H (ds++gs)=true):
 Calls Tryz.prog 4 args W fun e W'=>∃v,e= .returned v∧Rows.dumpsSpec.post enc Tryz.prog Tryz.f4 false true false false W args v W':=by
 have htb:zm W:=Vw hL;have hval:∀(j:Nat) t v,Tryz.f4.params[j]? =some t→args[j]? =some v→Value.okWide Tryz.prog W .any base t v:=hval0;have hW':=hW;obtain⟨p,q,hA0,hV,rfl,hfz,hnd⟩:=hW;have hA:DataW.TrodAll enc Tryz.prog W 0 (fun _=>true) true Tryz.f4.params.toList args.toList ds p:=hA0;rw[Tryz.params4]at hA hval;obtain⟨v0,vs0,d0,ds0,p0,q0,hargs,rfl,rfl,h0,r0⟩:=trodAll_cons hA;obtain⟨v1,vs1,d1,ds1,p1,q1,rfl,rfl,rfl,h1,r1⟩:=trodAll_cons r0;obtain⟨v2,vs2,d2,ds2,p2,q2,rfl,rfl,rfl,h2,r2⟩:=trodAll_cons r1;obtain⟨rfl,rfl,rfl⟩:=trodAll_nil r2;obtain rfl:args= #[v0,v1,v2]:=by cases args;simp_all
 obtain⟨rfl,rfl⟩:=trodVars_none hV;simp only[gp]at hk;have hk':=pV hk;have k2:=h2;have lt2:∀x∈p2,x.block<W.heap.size:=by obtain⟨m,hm⟩:=k2;exact DataW.trod_lt m _ _ _ hm
 have e2:Rows.uptoBulk d2≤1048576:=iD (bulk_le _ d2 (by simp)) hk';obtain⟨a0,rfl,rfl,rfl,w0⟩:=open_int Tryz.underlying3 (hval 0 3 v0 rfl rfl) h0;obtain⟨a1,rfl,rfl,rfl,w1⟩:=open_int Tryz.underlying3 (hval 1 3 v1 rfl rfl) h1;have ht2:∃s:ByteArray,v2= .string s∧s.size≤1048576:=by obtain⟨s,hv,hd,_,_⟩:=Go.ChangeMaps.open_string Tryz.underlying9 (hval 2 9 v2 rfl rfl) h2;exact⟨s,hv,short_str (H:=H) (hd▸e2)⟩
 obtain⟨s2,rfl,hs2⟩:=ht2;clear hA0 hval0;refine(JL a0 a1 s2 W htb (by omega)).mono fun e W' ⟨he,iB⟩=>?_;subst he;exact⟨_,rfl,_,_,_,[],_,[],hW',trodAll_mk1 (shut_bool Tryz.underlying4 _),(trodAll_cons_mk (shut_int Tryz.underlying3 w0) (trodAll_cons_mk (shut_int Tryz.underlying3 w1) (trodAll_cons_mk (Below.trod laidOut (by kernel_rfl) (pV (by kernel_rfl)) k2 iB lt2) trodAll_mk0))),rfl,iB.frame _,fun h=>by cases h⟩
def uD (arr:Array Value):Obj→Obj
 | .cells _ t frozen=>.cells arr t frozen
 |o=>o
theorem laid_met (os:Os):laidMet Tryz.prog Rows.dumpsUptoRow.laid (({World.holding Tryz.prog os ⟨#[],#[],[]⟩with heap:=((((((World.holding Tryz.prog os ⟨#[],#[],[]⟩).heap.modify 0 (uD iT)).modify 1 (uD fT)).modify 2 (uD eY)).modify 5 (uD EE)).modify 6 (uD EF)).modify 4 (uD BJ)}:World).forCall (fun _ _=>0) ⟨#[],#[.int .i64 0,.int .i64 0,.string ByteArray.empty],[]⟩).memory:=
 laidMet_of_run' 8 (by kernel_rfl) (by kernel_rfl)
theorem reads (os:Os) {H:Type} (enc:TypeId × Value→H):∃places,DataW.whole enc Tryz.prog (({World.holding Tryz.prog os ⟨#[],#[],[]⟩with heap:=((((((World.holding Tryz.prog os ⟨#[],#[],[]⟩).heap.modify 0 (uD iT)).modify 1 (uD fT)).modify 2 (uD eY)).modify 5 (uD EE)).modify 6 (uD EF)).modify 4 (uD BJ)}:World).forCall (fun _ _=>0) ⟨#[],#[.int .i64 0,.int .i64 0,.string ByteArray.empty],[]⟩).memory Tryz.f4.params.toList Rows.dumpsSpec.vars false #[Value.int .i64 0,.int .i64 0,.string ByteArray.empty].toList 8=some ([.lit (.int .i64 0),.lit (.int .i64 0),.lit (.string [])],[],places):=
 ⟨[],by kernel_rfl⟩
theorem liftedUpto (os:Os) (started:os.Started) (H:Type) (enc:TypeId × Value→H) (F:Stop.Interp):
 ReturnsInHanded {} Tryz.checked os 4 .any ((Rows.OpenSpec.upto Rows.dumpsSpec).preRow enc Tryz.prog Tryz.f4 Rows.dumpsUptoRow.domain false Rows.dumpsUptoRow.laid) (((Rows.OpenSpec.upto Rows.dumpsSpec).at F).post enc Tryz.prog Tryz.f4 false true false false):=by
 obtain⟨places,hx⟩:=reads os enc;refine returnsInHanded_of_row (C:=Tryz.checked) (s:=Rows.OpenSpec.upto Rows.dumpsSpec) own started (by kernel_rfl) Tryz.func4
  (witness_row_at (enc:=enc) (C:=Tryz.checked) false ({World.holding Tryz.prog os ⟨#[],#[],[]⟩with heap:=((((((World.holding Tryz.prog os ⟨#[],#[],[]⟩).heap.modify 0 (uD iT)).modify 1 (uD fT)).modify 2 (uD eY)).modify 5 (uD EE)).modify 6 (uD EF)).modify 4 (uD BJ)}:World) #[.int .i64 0,.int .i64 0,.string ByteArray.empty] rfl (by kernel_rfl) (by kernel_rfl) (by kernel_rfl)
    (OpenSpec.preRow_of_cond 8 hx (by kernel_rfl) (fun k hk=>by cases hk;kernel_rfl) (by kernel_rfl) (laid_met os))) ?_
 intro W base args ds gs before hval hW _ hcond _ hL _ _;exact contract H enc W base args ds gs before hval hW hL (hcond _ rfl)
theorem saidUpto:Rows.DumpsUptoSaid:=
 OpenClaim.holds_of_cond 4 Tryz.f4 rfl rfl rfl rfl rfl rfl rfl ⟨rfl,rfl,rfl,rfl,rfl⟩ rfl rfl rfl rfl rfl (by kernel_rfl) Tryz.func4 (by kernel_rfl)
  (pV (by kernel_rfl)) (by unfold Func.isWrapper;first|(rw[ak (by decide+kernel)];kernel_rfl)|(rw[ai (by decide+kernel)];exact⟨rfl,rfl⟩))
  (fun os started H enc _ F=>by rw[OpenClaim.pre_eq_preRow];exact liftedUpto os started H enc F)
theorem plain (f:FuncId) (fn:Func) (hf:Tryz.pinned.checked.prog.funcNamed "slate/slatelaw.Dumps" =some f) (hfn:Tryz.pinned.checked.prog.funcs[f]? =some fn):
 false=Tryz.pinned.checked.prog.looks []∧∀(j:Nat) t,fn.params[j]? =some t→Tryz.pinned.checked.prog.wantsStandIn t=false:=by
 obtain rfl:f=4:=gz ((show Tryz.prog.funcNamed "slate/slatelaw.Dumps" =some 4 by kernel_rfl).symm.trans hf) |>.symm;obtain rfl:fn=Tryz.f4:=(gz (Tryz.func4.symm.trans hfn)).symm;refine⟨by kernel_rfl,fun j t ht=>?_⟩;rw[Tryz.params4]at ht;have:t=3∨t=3∨t=9:=by simpa using Array.mem_of_getElem? ht
 rcases this with rfl|rfl|rfl
 ·exact(show Tryz.prog.wantsStandIn 3=false by kernel_rfl)
 ·exact(show Tryz.prog.wantsStandIn 3=false by kernel_rfl)
 ·exact(show Tryz.prog.wantsStandIn 9=false by kernel_rfl)
theorem cardUpto:Rows.DumpsUptoCardSaid:=
 Claim7.holds_tied_plain_at .later [] _ _ _ _ saidUpto (fun _ h=>by cases h) (by kernel_rfl) (fun _ h=>by cases h) dumpsUpto_row_tie rfl ⟨rfl,rfl⟩ (by kernel_rfl) rfl plain (by kernel_rfl)
end Go.Proofs.YtheibfffilomcaaGreatDoor.dumps
