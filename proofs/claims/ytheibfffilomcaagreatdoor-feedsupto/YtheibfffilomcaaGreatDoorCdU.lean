import Derived.Test.YtheibfffilomcaaGreatDoorTmaU
import Derived.Test.YtheibfffilomcaaGreatDoorEqcU
import Derived.Deep.RegionHeld
import Derived.Laws.IdiomCopy
set_option linter.all false
set_option maxRecDepth 100000
set_option maxHeartbeats 1000000
namespace Go.Proofs.YtheibfffilomcaaGreatDoor
open Go.RowKit Go.Proofs.Tryz
variable {Q:Exit→Act→World→Prop} {ops:Array Oper} {w u:World} {S:World→Prop} {fuel d d1 d2 i d3:Nat} {listed:Array Bool} {ds:List Deferred} {a:Act} {K:Act→World→Prop} {oi o1 o2 o3:Oper} {α:Type} {v1 v2 v3:Value} {ar:List Operand} {ats:Array TypeId} {vs:List Value}
theorem DW{fn:Func}{p:Tmp}(h:fn.results= #[.cell p 101])(tmps:Array Value)(w:World)(g:Nat)(c:aI)(t:TypeId)(fr:Nat × Nat)(hp:tmps.getD p undef= .pointer (some ⟨g,0,none⟩))(hg:w.heap[g]? =some (.cells (dw c) t fr)):
 (results fn tmps).run prog w= .ok (.agg (dw c)) w:=
 results_cell_row h tmps w g t (dw c) fr _ hp hg underlying101 rfl (by rw[tC];exact g_)
theorem oH(w:World):Calls prog 204 #[] w fun e w'=>e= .returned (.agg (dw aD))∧Below w.heap.size w w':=by go_enter func204,ntmps204;go_wp2;exact bX (DW results204 _ _ w.heap.size aD 101 (0,0) rfl (bV _ _)) rfl ⟨rfl,(dU _ _).alloc (bN _) _⟩
theorem IE(c:aI)(w:World):Calls prog 169 #[.agg (dw c)] w fun e w'=>e= .returned (.agg (dw (jQ c)))∧Below w.heap.size w w':=by
 change Calls prog 169 #[.agg #[.int .i64 c.r,.bool c.p.b,.bool c.p.u,.bool c.p.t,.int .i64 c.p.f,.int .i64 c.p.k,.int .i64 c.part]] w _;go_enter func169,ntmps169;go_wp2;refine bX (DW results169 _ _ (w.heap.size+1) (jQ c) 101 (0,0) (by simp) ?_) rfl ⟨rfl,?_⟩
 ·have hs:(w.alloc (.cells #[.int .i64 c.r,.bool c.p.b,.bool c.p.u,.bool c.p.t,.int .i64 c.p.f,.int .i64 c.p.k,.int .i64 c.part] 101)).heap.size=w.heap.size+1:=by simp
  rw[←hs];exact bV _ _
 ·exact((dU _ _).alloc (bN _) _).alloc (by simp) _
theorem SE(r:List aI)(a k:Nat)(h:a+k<r.length):(jv r a k).set (a+k) aD=jv r a (k+1):=by
 unfold jv;have h1:(r.take a).length=a:=by rw[kg];omega
 rw[CX _ _ (by omega),h1,CX _ _ (by simp),kJ,show a+k-a-k=0 by omega, ←List.getElem_cons_drop h,fD,List.replicate_succ',f_];rfl
theorem OC(r:List aI)(a:Nat):jv r a 0=r:=by simp[jv]
theorem nY(g off a n cap:Nat)(r:List aI)(w:World)(hoff:off=a*7)(hr:aV w g r)(han:a+n≤r.length)(hrl:r.length≤100):
 Calls prog 168 #[.slice (some ⟨g,off,none⟩) n cap] w fun e w'=>e= .returned (.tuple #[])∧aV w' g (jv r a n)∧Ch (· =g) w w':=by
 subst hoff;go_enter func168,ntmps168;go_wp2_with fail;go_loopw [5] (fun i wr=>∃k:Nat,k≤n∧i= .int .i64 k∧aV wr g (jv r a k)∧Ch (· =g) w wr) (fun i _=>n-(intOf i).toNat)
 case atStart=>exact⟨0,dx _,rfl,by rw[OC];exact hr,Ch.refl _ _⟩
 case round=>
  obtain⟨k,hk,rfl,Av,hch⟩:=hrel;by_cases hlt:k<n
  ·have ik:(k:Int)<(n:Int):=by omega
   have hl:(jv r a k).length=r.length:=qx r a k (by omega);have HR:Hid (aV wr g (jv r a k)):=Av;have HC:Hid _:=hch;have HL:Hid _:=hl;clear Av hch hl;go_wp2_with (first|(go_at_call 204;refine(oH _).mono ?_;rintro e w1 ⟨rfl,b1⟩)|(refine sM _ rfl (.tmp 11) (.tmp 10) rfl g (a*7+k*7) (a+k) (jv r a k) aD rfl (by omega) (dw aD) rfl rfl (HR.o.kept (b1.block g HR.o.lt)) (by rw[HL.o];omega) ?_));intro u' hu cu su;rw[SE _ _ _ (by omega)]at hu;have C2:Ch (· =g) w u':=(HC.o.trans (Ch.of_below b1)).trans cu;clear HR HC HL cu su b1;go_wp2_with fail;go_roundw
   case rel=>exact⟨k+1,by omega,by go_num,hu,C2⟩
   case measure=>simp[intOf];omega
  ·have hkn:k=n:=by omega
   subst hkn;go_wp2_with fail;go_end0;exact⟨rfl,Av,hch⟩
theorem QF(op:BinOp)(x y:Operand)(xs ys:Array Value)(w:World):(eqGuard op 101 x y (.agg xs) (.agg ys)).run prog w= .ok () w:=run_eqGuard_agg w op 101 x y xs ys (by kernel_rfl)
theorem yF{o:Oper}(x y:Operand)(ho:o.op= .binOp .eql 101 x y 101)(c d:aI)(hx:a.eval x= .agg (dw c))(hy:a.eval y= .agg (dw d))(w:World):(execOp a.eval o).run prog w= .ok (.value (.bool (decide (c=d)))) w:=by unfold execOp;simp only[ho,hx,hy,jV,QF,aeH,jU,mK]
theorem aX:prog.follows .mixedOrders=true:=by kernel_rfl
theorem nC{v:Value}{l:List Value}(hi:ops[i]? =some oi)(hd:oi.dst=some d)(hs:Region.noSelect ops=true)(hf:Region.free .any ops listed i=true)(hr:(Region.ready .any ops listed).contains i=true)(hQ:∀c a w,Q (.panic c) (a.put oi.dst v) w→Q (.panic c) a w)(hy:YieldsIf prog ops S oi v ⟨l.toArray,ds⟩)(hS:S w)(h:wpAnyH prog .any ops Q S fuel (listed.setIfInBounds i true) ⟨(l.set d v).toArray,ds⟩ w):wpAnyH prog .any ops Q S (fuel+1) listed ⟨l.toArray,ds⟩ w:=by
 refine wpAnyH_take hi hs hf hr hQ hy hS ?_;rw[hd];simpa[Act.put]using h
theorem ag(a:α)(l:List α)(b:α):(a::l).set 0 b=b::l:=rfl
theorem af(a:α)(l:List α)(n:Nat)(b:α):(a::l).set (n+1) b=a::l.set n b:=rfl
theorem aj(i:Nat){v:Value}{l:List Value}(hS:S w)(h:wpAnyH prog .any ops Q S fuel (listed.setIfInBounds i true) ⟨(l.set d v).toArray,ds⟩ w)(hi:ops[i]? =some oi:=by rfl)(hd:oi.dst=some d:=by rfl)(hs:Region.noSelect ops=true:=by kernel_rfl)(hf:Region.free .any ops listed i=true:=by kernel_rfl)(hr:(Region.ready .any ops listed).contains i=true:=by kernel_rfl)(hy:YieldsIf prog ops S oi v ⟨l.toArray,ds⟩:=by exact(Or.inl ⟨by rfl,by intro x gY;(try have hA:=gY.1);(try have hB:=gY.2);(try have hC:=gY.2.1);(try have hD:=gY.2.2);(try have hE:=gY.2.2.1);(try have hF:=gY.2.2.2);(try have hG:=gY.2.2.2.1);go_simp;try (first|rfl|go_num)⟩))(hQ:∀c a w,Q (.panic c) (a.put oi.dst v) w→Q (.panic c) a w:=by exact fun _ _ _ h=>h):wpAnyH prog .any ops Q S (fuel+1) listed ⟨l.toArray,ds⟩ w:=nC hi hd hs hf hr hQ hy hS h
theorem dW(i1 i2:Nat){l:List Value}(hS:S w)(h:wpAnyH prog .any ops Q S fuel ((listed.setIfInBounds i1 true).setIfInBounds i2 true) ⟨((l.set d1 v1).set d2 v2).toArray,ds⟩ w)(hs:Region.noSelect ops=true:=by kernel_rfl)(hi1:ops[i1]? =some o1:=by rfl)(hd1:o1.dst=some d1:=by rfl)(hf1:Region.free .any ops listed i1=true:=by kernel_rfl)(hr1:(Region.ready .any ops listed).contains i1=true:=by kernel_rfl)(hy1:YieldsIf prog ops S o1 v1 ⟨(l).toArray,ds⟩:=by exact(Or.inl ⟨by rfl,by intro x gY;(try have hA:=gY.1);(try have hB:=gY.2);(try have hC:=gY.2.1);(try have hD:=gY.2.2);(try have hE:=gY.2.2.1);(try have hF:=gY.2.2.2);(try have hG:=gY.2.2.2.1);go_simp;try (first|rfl|go_num)⟩))(Zg:∀c a w,Q (.panic c) (a.put o1.dst v1) w→Q (.panic c) a w:=by exact fun _ _ _ h=>h)(hi2:ops[i2]? =some o2:=by rfl)(hd2:o2.dst=some d2:=by rfl)(hf2:Region.free .any ops (listed.setIfInBounds i1 true) i2=true:=by kernel_rfl)(hr2:(Region.ready .any ops (listed.setIfInBounds i1 true)).contains i2=true:=by kernel_rfl)(hy2:YieldsIf prog ops S o2 v2 ⟨(l.set d1 v1).toArray,ds⟩:=by exact(Or.inl ⟨by rfl,by intro x gY;(try have hA:=gY.1);(try have hB:=gY.2);(try have hC:=gY.2.1);(try have hD:=gY.2.2);(try have hE:=gY.2.2.1);(try have hF:=gY.2.2.2);(try have hG:=gY.2.2.2.1);go_simp;try (first|rfl|go_num)⟩))(Zh:∀c a w,Q (.panic c) (a.put o2.dst v2) w→Q (.panic c) a w:=by exact fun _ _ _ h=>h):wpAnyH prog .any ops Q S (fuel+2) listed ⟨l.toArray,ds⟩ w:=nC hi1 hd1 hs hf1 hr1 Zg hy1 hS (nC hi2 hd2 hs hf2 hr2 Zh hy2 hS h)
theorem dH(i1 i2 i3:Nat){l:List Value}(hS:S w)(h:wpAnyH prog .any ops Q S fuel (((listed.setIfInBounds i1 true).setIfInBounds i2 true).setIfInBounds i3 true) ⟨(((l.set d1 v1).set d2 v2).set d3 v3).toArray,ds⟩ w)(hs:Region.noSelect ops=true:=by kernel_rfl)(hi1:ops[i1]? =some o1:=by rfl)(hd1:o1.dst=some d1:=by rfl)(hf1:Region.free .any ops listed i1=true:=by kernel_rfl)(hr1:(Region.ready .any ops listed).contains i1=true:=by kernel_rfl)(hy1:YieldsIf prog ops S o1 v1 ⟨(l).toArray,ds⟩:=by exact(Or.inl ⟨by rfl,by intro x gY;(try have hA:=gY.1);(try have hB:=gY.2);(try have hC:=gY.2.1);(try have hD:=gY.2.2);(try have hE:=gY.2.2.1);(try have hF:=gY.2.2.2);(try have hG:=gY.2.2.2.1);go_simp;try (first|rfl|go_num)⟩))(Zg:∀c a w,Q (.panic c) (a.put o1.dst v1) w→Q (.panic c) a w:=by exact fun _ _ _ h=>h)(hi2:ops[i2]? =some o2:=by rfl)(hd2:o2.dst=some d2:=by rfl)(hf2:Region.free .any ops (listed.setIfInBounds i1 true) i2=true:=by kernel_rfl)(hr2:(Region.ready .any ops (listed.setIfInBounds i1 true)).contains i2=true:=by kernel_rfl)(hy2:YieldsIf prog ops S o2 v2 ⟨(l.set d1 v1).toArray,ds⟩:=by exact(Or.inl ⟨by rfl,by intro x gY;(try have hA:=gY.1);(try have hB:=gY.2);(try have hC:=gY.2.1);(try have hD:=gY.2.2);(try have hE:=gY.2.2.1);(try have hF:=gY.2.2.2);(try have hG:=gY.2.2.2.1);go_simp;try (first|rfl|go_num)⟩))(Zh:∀c a w,Q (.panic c) (a.put o2.dst v2) w→Q (.panic c) a w:=by exact fun _ _ _ h=>h)(hi3:ops[i3]? =some o3:=by rfl)(hd3:o3.dst=some d3:=by rfl)(hf3:Region.free .any ops ((listed.setIfInBounds i1 true).setIfInBounds i2 true) i3=true:=by kernel_rfl)(hr3:(Region.ready .any ops ((listed.setIfInBounds i1 true).setIfInBounds i2 true)).contains i3=true:=by kernel_rfl)(hy3:YieldsIf prog ops S o3 v3 ⟨((l.set d1 v1).set d2 v2).toArray,ds⟩:=by exact(Or.inl ⟨by rfl,by intro x gY;(try have hA:=gY.1);(try have hB:=gY.2);(try have hC:=gY.2.1);(try have hD:=gY.2.2);(try have hE:=gY.2.2.1);(try have hF:=gY.2.2.2);(try have hG:=gY.2.2.2.1);go_simp;try (first|rfl|go_num)⟩))(hQ3:∀c a w,Q (.panic c) (a.put o3.dst v3) w→Q (.panic c) a w:=by exact fun _ _ _ h=>h):wpAnyH prog .any ops Q S (fuel+3) listed ⟨l.toArray,ds⟩ w:=nC hi1 hd1 hs hf1 hr1 Zg hy1 hS (nC hi2 hd2 hs hf2 hr2 Zh hy2 hS (nC hi3 hd3 hs hf3 hr3 hQ3 hy3 hS h))
theorem ay(i1 i2 i3 i4:Nat){d4:Nat}{v4:Value}{o4:Oper}{l:List Value}(hS:S w)(h:wpAnyH prog .any ops Q S fuel ((((listed.setIfInBounds i1 true).setIfInBounds i2 true).setIfInBounds i3 true).setIfInBounds i4 true) ⟨((((l.set d1 v1).set d2 v2).set d3 v3).set d4 v4).toArray,ds⟩ w)(hs:Region.noSelect ops=true:=by kernel_rfl)(hi1:ops[i1]? =some o1:=by rfl)(hd1:o1.dst=some d1:=by rfl)(hf1:Region.free .any ops listed i1=true:=by kernel_rfl)(hr1:(Region.ready .any ops listed).contains i1=true:=by kernel_rfl)(hy1:YieldsIf prog ops S o1 v1 ⟨(l).toArray,ds⟩:=by exact(Or.inl ⟨by rfl,by intro x gY;(try have hA:=gY.1);(try have hB:=gY.2);(try have hC:=gY.2.1);(try have hD:=gY.2.2);(try have hE:=gY.2.2.1);(try have hF:=gY.2.2.2);(try have hG:=gY.2.2.2.1);go_simp;try (first|rfl|go_num)⟩))(Zg:∀c a w,Q (.panic c) (a.put o1.dst v1) w→Q (.panic c) a w:=by exact fun _ _ _ h=>h)(hi2:ops[i2]? =some o2:=by rfl)(hd2:o2.dst=some d2:=by rfl)(hf2:Region.free .any ops (listed.setIfInBounds i1 true) i2=true:=by kernel_rfl)(hr2:(Region.ready .any ops (listed.setIfInBounds i1 true)).contains i2=true:=by kernel_rfl)(hy2:YieldsIf prog ops S o2 v2 ⟨(l.set d1 v1).toArray,ds⟩:=by exact(Or.inl ⟨by rfl,by intro x gY;(try have hA:=gY.1);(try have hB:=gY.2);(try have hC:=gY.2.1);(try have hD:=gY.2.2);(try have hE:=gY.2.2.1);(try have hF:=gY.2.2.2);(try have hG:=gY.2.2.2.1);go_simp;try (first|rfl|go_num)⟩))(Zh:∀c a w,Q (.panic c) (a.put o2.dst v2) w→Q (.panic c) a w:=by exact fun _ _ _ h=>h)(hi3:ops[i3]? =some o3:=by rfl)(hd3:o3.dst=some d3:=by rfl)(hf3:Region.free .any ops ((listed.setIfInBounds i1 true).setIfInBounds i2 true) i3=true:=by kernel_rfl)(hr3:(Region.ready .any ops ((listed.setIfInBounds i1 true).setIfInBounds i2 true)).contains i3=true:=by kernel_rfl)(hy3:YieldsIf prog ops S o3 v3 ⟨((l.set d1 v1).set d2 v2).toArray,ds⟩:=by exact(Or.inl ⟨by rfl,by intro x gY;(try have hA:=gY.1);(try have hB:=gY.2);(try have hC:=gY.2.1);(try have hD:=gY.2.2);(try have hE:=gY.2.2.1);(try have hF:=gY.2.2.2);(try have hG:=gY.2.2.2.1);go_simp;try (first|rfl|go_num)⟩))(hQ3:∀c a w,Q (.panic c) (a.put o3.dst v3) w→Q (.panic c) a w:=by exact fun _ _ _ h=>h)(hi4:ops[i4]? =some o4:=by rfl)(hd4:o4.dst=some d4:=by rfl)(hf4:Region.free .any ops (((listed.setIfInBounds i1 true).setIfInBounds i2 true).setIfInBounds i3 true) i4=true:=by kernel_rfl)(hr4:(Region.ready .any ops (((listed.setIfInBounds i1 true).setIfInBounds i2 true).setIfInBounds i3 true)).contains i4=true:=by kernel_rfl)(hy4:YieldsIf prog ops S o4 v4 ⟨(((l.set d1 v1).set d2 v2).set d3 v3).toArray,ds⟩:=by exact(Or.inl ⟨by rfl,by intro x gY;(try have hA:=gY.1);(try have hB:=gY.2);(try have hC:=gY.2.1);(try have hD:=gY.2.2);(try have hE:=gY.2.2.1);(try have hF:=gY.2.2.2);(try have hG:=gY.2.2.2.1);go_simp;try (first|rfl|go_num)⟩))(hQ4:∀c a w,Q (.panic c) (a.put o4.dst v4) w→Q (.panic c) a w:=by exact fun _ _ _ h=>h):wpAnyH prog .any ops Q S (fuel+4) listed ⟨l.toArray,ds⟩ w:=nC hi1 hd1 hs hf1 hr1 Zg hy1 hS (nC hi2 hd2 hs hf2 hr2 Zh hy2 hS (nC hi3 hd3 hs hf3 hr3 hQ3 hy3 hS (nC hi4 hd4 hs hf4 hr4 hQ4 hy4 hS h)))
theorem dI(h:Oper.wp prog oi a w K Q)(hi:ops[i]? =some oi:=by rfl)(hw:Region.wanted oi (yielded ops a.tmps)=true:=by rfl):wpOp prog ops Q i K a w:=by refine wpOp_step hi fun K' hK=>?_;rw[ak hw];exact Oper.wp_mono hK h
theorem av(i:Nat)(h:Oper.wp prog oi a w (fun a w=>S w∧wpAnyH prog .any ops Q S fuel (listed.setIfInBounds i true) a w) Q)(hi:ops[i]? =some oi:=by rfl)(hr:Region.ready .any ops listed=[i]:=by kernel_rfl)(hw:Region.wanted oi (yielded ops a.tmps)=true:=by rfl):wpAnyH prog .any ops Q S (fuel+1) listed a w:=by
 refine wpAnyH_all (rs:=[i]) hr (by simp) ?_;intro j hj;rw[jg]at hj;subst hj;exact dI h hi hw
theorem lQ(i j:Nat)(h1:wpOp prog ops Q i (fun a w=>S w∧wpAnyH prog .any ops Q S fuel (listed.setIfInBounds i true) a w) a w)(h2:wpOp prog ops Q j (fun a w=>S w∧wpAnyH prog .any ops Q S fuel (listed.setIfInBounds j true) a w) a w)(hr:Region.ready .any ops listed=[i,j]:=by kernel_rfl):wpAnyH prog .any ops Q S (fuel+1) listed a w:=by
 refine wpAnyH_all (rs:=[i,j]) hr (by simp) ?_;intro k hk;simp only[kK,pX,pY]at hk;rcases hk with rfl|rfl
 ·exact h1
 ·exact h2
theorem JS(i j k:Nat)(h1:wpOp prog ops Q i (fun a w=>S w∧wpAnyH prog .any ops Q S fuel (listed.setIfInBounds i true) a w) a w)(h2:wpOp prog ops Q j (fun a w=>S w∧wpAnyH prog .any ops Q S fuel (listed.setIfInBounds j true) a w) a w)(h3:wpOp prog ops Q k (fun a w=>S w∧wpAnyH prog .any ops Q S fuel (listed.setIfInBounds k true) a w) a w)(hr:Region.ready .any ops listed=[i,j,k]:=by kernel_rfl):wpAnyH prog .any ops Q S (fuel+1) listed a w:=by
 refine wpAnyH_all (rs:=[i,j,k]) hr (by simp) ?_;intro l hl;simp only[kK,pX,pY]at hl;rcases hl with rfl|rfl|rfl
 ·exact h1
 ·exact h2
 ·exact h3
theorem aC(h:Q .normal a w)(hr:Region.ready .any ops listed=[]:=by kernel_rfl):wpAnyH prog .any ops Q S fuel listed a w:=wpAnyH_done hr h fuel
theorem vG{f:FuncId}{o:Oper}{l:List Value}(d:Nat)(ar:List Operand)(ats:Array TypeId)(ho:o.op= .call {callee:=.value (.func f),args:=ar.toArray,argTypes:=ats})(hd:o.dst=some d)(vs:List Value)(hx:ar.map (Act.eval ⟨l.toArray,ds⟩)=vs)(hf:(callFunc f vs.toArray).run prog u= .ok (.enter f vs.toArray) u)(R:Value→World→Prop)(hc:Calls prog f vs.toArray u fun e w'=>∃v,e= .returned v∧R v w')(h:∀v w',R v w'→K ⟨(l.set d v).toArray,ds⟩ w'):Oper.wp prog o ⟨l.toArray,ds⟩ u K Q:=by
 unfold Oper.wp execOp;have hx':ar.toArray.map (Act.eval ⟨l.toArray,ds⟩)=vs.toArray:=by rw[List.map_toArray,hx]
 simp only[ho,resolve,invoke,jV,Act.eval,hx',Deferred.ofValue,mK,jU,Array.append_empty,Array.empty_append,hf];rw[Oper.upon_enter];refine hc.mono ?_;rintro e w' ⟨v,rfl,hr⟩;have:=h v w' hr;simpa[hd,Act.put]using this
theorem a_{f:FuncId}{o:Oper}{l:List Value}{R:Value→World→Prop}(hc:Calls prog f vs.toArray u fun e w'=>∃v,e= .returned v∧R v w')(h:∀v w',R v w'→K ⟨(l.set d v).toArray,ds⟩ w')(ho:o.op= .call {callee:=.value (.func f),args:=ar.toArray,argTypes:=ats}:=by rfl)(hd:o.dst=some d:=by rfl)(hx:ar.map (Act.eval ⟨l.toArray,ds⟩)=vs:=by rfl)(hf:(callFunc f vs.toArray).run prog u= .ok (.enter f vs.toArray) u:=by kernel_rfl):Oper.wp prog o ⟨l.toArray,ds⟩ u K Q:=vG d ar ats ho hd vs hx hf R hc h
theorem dN{f:FuncId}{o:Oper}{l:List Value}{V:Value}{R:World→Prop}(hc:Calls prog f vs.toArray u fun e w'=>e= .returned V∧R w')(h:∀v w',v=V∧R w'→K ⟨(l.set d v).toArray,ds⟩ w')(ho:o.op= .call {callee:=.value (.func f),args:=ar.toArray,argTypes:=ats}:=by rfl)(hd:o.dst=some d:=by rfl)(hx:ar.map (Act.eval ⟨l.toArray,ds⟩)=vs:=by rfl)(hf:(callFunc f vs.toArray).run prog u= .ok (.enter f vs.toArray) u:=by kernel_rfl):Oper.wp prog o ⟨l.toArray,ds⟩ u K Q:=vG d ar ats ho hd vs hx hf (fun v w'=>v=V∧R w') (hc.mono fun _ _ h=>⟨V,h.1,rfl,h.2⟩) h
theorem pJ{f:FuncId}{o:Oper}{l:List Value}{V:α→Value}{R:α→World→Prop}(hc:Calls prog f vs.toArray u fun e w'=>∃a,e= .returned (V a)∧R a w')(h:∀v w',(∃a,v=V a∧R a w')→K ⟨(l.set d v).toArray,ds⟩ w')(ho:o.op= .call {callee:=.value (.func f),args:=ar.toArray,argTypes:=ats}:=by rfl)(hd:o.dst=some d:=by rfl)(hx:ar.map (Act.eval ⟨l.toArray,ds⟩)=vs:=by rfl)(hf:(callFunc f vs.toArray).run prog u= .ok (.enter f vs.toArray) u:=by kernel_rfl):Oper.wp prog o ⟨l.toArray,ds⟩ u K Q:=vG d ar ats ho hd vs hx hf (fun v w'=>∃a,v=V a∧R a w') (hc.mono fun _ _ h=>h.elim fun a h=>⟨V a,h.1,a,rfl,h.2⟩) h
theorem iy(g a cap:Nat)(r:List aI)(w:World)(hr:aV w g r)(ha:a≤100000):
 Calls prog 167 #[.slice (some ⟨g,0,none⟩) r.length cap,.int .i64 (a:Int)] w fun e w'=>e= .returned (.tuple #[])∧aV w' g (aJ r a)∧Ch (· =g) w w':=by
 by_cases h0:0<a
 ·by_cases h1:a<r.length
  ·obtain⟨b,rfl⟩:∃b,a=b+1:=⟨a-1,by omega⟩;have hc:r[b+1]? =some (r.getD (b+1) aD):=by simp[List.getD,eG h1]
   have hc':r[b]? =some (r.getD b aD):=by simp[List.getD,eG (show b<r.length by omega)]
   have hsp:aJ r (b+1)=if r.getD (b+1) aD=jQ (r.getD b aD)then(r.set b aD).set (b+1) aD else r:=by simp[aJ,h1]
   generalize r.getD (b+1) aD=c at*;generalize r.getD b aD=c' at*;generalize aJ r (b+1)=X at*;have HX:Hid _:=hsp;clear hsp;have i1:(b:Int)+1<(r.length:Int):=by omega
   have i2:b<r.length:=by omega
   have d0:decide ((b:Int)+1≤0)=false:=by simp
   have d1:decide ((r.length:Int)≤(b:Int)+1)=false:=by simp;omega
   have wb:IntKind.i64.wrap (b:Int)=b:=IntWalk.i64_in _ (by omega);have HR:Hid (aV w g r):=hr;clear hr;rw[show(((b+1:Nat):Nat):Int)=(b:Int)+1 from rfl];go_enter func167,ntmps167;go_wp2_with fail;have HS:aV ({w with drawn:=w.drawn+1}:World) g r∧Below w.heap.size w ({w with drawn:=w.drawn+1}:World):=⟨HR.o,⟨rfl,rfl,rfl,bN _,fun _ _=>rfl⟩⟩;refine wp_region_held (S:=fun x=>aV x g r∧Below w.heap.size w x) aX ?_;refine nC (i:=0) (d:=12) (v:=.slice (some ⟨g,0,none⟩) r.length cap) rfl rfl (by kernel_rfl) (by kernel_rfl) (by kernel_rfl) (fun _ _ _ h=>h) (Or.inl ⟨by rfl,by intro x gY;go_simp;try (first|rfl|go_num)⟩) HS ?_;simp only[fD,fP];refine nC (i:=1) (d:=13) (v:=.int .i64 ((b:Int)+1)) rfl rfl (by kernel_rfl) (by kernel_rfl) (by kernel_rfl) (fun _ _ _ h=>h) (Or.inl ⟨by rfl,by intro x gY;go_simp;try (first|rfl|go_num)⟩) HS ?_;simp only[fD,fP];refine nC (i:=2) (d:=14) (v:=.pointer (some ⟨g,(b+1)*7,none⟩)) rfl rfl (by kernel_rfl) (by kernel_rfl) (by kernel_rfl) (fun _ _ _ h=>h) (Or.inl ⟨by rfl,by intro x gY;go_simp;try (first|rfl|go_num)⟩) HS ?_;simp only[fD,fP];refine nC (i:=3) (d:=15) (v:=.agg (dw c)) rfl rfl (by kernel_rfl) (by kernel_rfl) (by kernel_rfl) (fun _ _ _ h=>h) (yieldsIf_load_mid (by rfl) 101 (.tmp 14) rfl g ((b+1)*7) rfl (cellV c) _ (fun x h=>aV.range h.1 hc) underlying101 rfl (by rw[fF];exact g_)) HS ?_;simp only[fD,fP];refine nC (i:=4) (d:=16) (v:=.slice (some ⟨g,0,none⟩) r.length cap) rfl rfl (by kernel_rfl) (by kernel_rfl) (by kernel_rfl) (fun _ _ _ h=>h) (Or.inl ⟨by rfl,by intro x gY;go_simp;try (first|rfl|go_num)⟩) HS ?_;simp only[fD,fP];refine nC (i:=5) (d:=17) (v:=.int .i64 ((b:Int)+1)) rfl rfl (by kernel_rfl) (by kernel_rfl) (by kernel_rfl) (fun _ _ _ h=>h) (Or.inl ⟨by rfl,by intro x gY;go_simp;try (first|rfl|go_num)⟩) HS ?_;simp only[fD,fP];refine nC (i:=6) (d:=18) (v:=.int .i64 (b:Int)) rfl rfl (by kernel_rfl) (by kernel_rfl) (by kernel_rfl) (fun _ _ _ h=>h) (Or.inl ⟨by rfl,by intro x gY;go_simp;try (first|rfl|go_num)⟩) HS ?_;simp only[fD,fP];refine nC (i:=7) (d:=19) (v:=.pointer (some ⟨g,b*7,none⟩)) rfl rfl (by kernel_rfl) (by kernel_rfl) (by kernel_rfl) (fun _ _ _ h=>h) (Or.inl ⟨by rfl,by intro x gY;go_simp;try (first|rfl|go_num)⟩) HS ?_;simp only[fD,fP];refine nC (i:=8) (d:=20) (v:=.agg (dw c')) rfl rfl (by kernel_rfl) (by kernel_rfl) (by kernel_rfl) (fun _ _ _ h=>h) (yieldsIf_load_mid (by rfl) 101 (.tmp 19) rfl g (b*7) rfl (cellV c') _ (fun x h=>aV.range h.1 hc') underlying101 rfl (by rw[fF];exact g_)) HS ?_;simp only[fD,fP];refine wpAnyH_all (rs:=[9]) (by kernel_rfl) (by simp) ?_;intro i hi;rw[jg]at hi;subst hi;refine wpOp_step rfl fun Kq qN=>?_;rw[ak (by rfl)];refine vG (f:=169) 21 [.tmp 20] #[101] rfl rfl [.agg (dw c')] rfl (by kernel_rfl) (fun v w'=>v= .agg (dw (jQ c'))∧Below w.heap.size w w') ((IE c' _).mono fun e w' h=>⟨_,h.1,rfl,HS.2.trans (h.2)⟩) ?_;rintro v2 w1 ⟨rfl,b1⟩;have wu:aV w1 g r∧Below w.heap.size w w1:=⟨HR.o.kept (b1.block g HR.o.lt),b1⟩;refine qN _ _ ⟨wu,?_⟩;clear qN HS;simp only[fD,fP];refine nC (i:=10) (d:=22) (v:=.bool (decide (c=jQ c'))) rfl rfl (by kernel_rfl) (by kernel_rfl) (by kernel_rfl) (fun _ _ _ h=>h) (Or.inl ⟨by rfl,fun x _=>yF (.tmp 15) (.tmp 21) rfl c (jQ c') rfl rfl x⟩) wu ?_;simp only[fD,fP];refine wpAnyH_done (by kernel_rfl) ?_ _;have HR1:Hid (aV w1 g r):=wu.1;have HB1:Hid _:=b1;clear wu b1 HR;by_cases hq:c=jQ c'
   ·rw[ak hq]at HX;have dq:decide (c=jQ c')=true:=by simp[hq]
    have HQ:Hid _:=hq;rw[dq];clear dq hq;have Tw:Hid (Ch (· =g) w w1):=Ch.of_below HB1.o;clear HB1;go_wp2_with (first|(go_at_call 204;refine(oH _).mono ?_;rintro e w2 ⟨rfl,b2⟩;have Tw:Hid (Ch (· =g) w w2):=Tw.o.trans (Ch.of_below b2);have HR1:Hid (aV w2 g r):=HR1.o.kept (b2.block g HR1.o.lt);clear b2)|(refine sM _ rfl (.tmp 30) (.tmp 28) rfl g (b*7) b r aD rfl rfl (dw aD) rfl rfl HR1.o i2 ?_));intro u1 hu1 cu1 su1;have n_:Hid (Ch (· =g) w u1):=Tw.o.trans cu1;have HR2:Hid (aV u1 g (r.set b aD)):=hu1;clear hu1 cu1 su1;go_wp2_with (refine sM _ rfl (.tmp 31) (.tmp 29) rfl g ((b+1)*7) (b+1) (r.set b aD) aD rfl rfl (dw aD) rfl rfl HR2.o (by rw[lG];exact h1) ?_);intro u2 hu2 cu2 su2;go_wp2_with fail;go_end0;exact⟨rfl,by rw[HX.o];exact hu2,n_.o.trans cu2⟩
   ·rw[ai hq]at HX;have dq:decide (c=jQ c')=false:=by simp[hq]
    rw[dq];clear dq hq;go_wp2_with fail;go_end0;exact⟨rfl,by rw[HX.o];exact HR1.o,Ch.of_below HB1.o⟩
  ·have e:aJ r a=r:=by simp[aJ,h1]
   rw[e];clear e;have d0:decide ((a:Int)≤0)=false:=by simp;omega
   have d1:decide (r.length≤a)=true:=by simp;omega
   have i1:(r.length:Int)≤(a:Int):=by omega
   have HR:Hid (aV w g r):=hr;clear hr;go_enter func167,ntmps167;go_wp2_with fail;exact bX (dz results167 _ _ _) rfl ⟨rfl,HR.o,Ch.refl _ _⟩
 ·have e:aJ r a=r:=by simp[aJ,h0]
  obtain rfl:a=0:=by omega
  rw[e];clear e;have HR:Hid (aV w g r):=hr;clear hr;go_enter func167,ntmps167;go_wp2_with fail;exact bX (dz results167 _ _ _) rfl ⟨rfl,HR.o,Ch.refl _ _⟩
abbrev bD:=@IntWalk.i64_in
abbrev dX:=@wp_region_held
abbrev kz:=@yieldsIf_load_mid
abbrev nH:=@Calls.quiet_of_same
abbrev nN:=@wpList_load_mid
theorem rZ(g a b n:Nat)(r:List aI)(w:World)(hr:aV w g r)(hn:r.length=n)(hab:a<b)(hb:b≤n)(hl:n≤100):
 Calls prog 187 #[.slice (some ⟨g,0,none⟩) n n,.int .i64 (a:Int),.int .i64 (b:Int)] w fun e w'=>e= .returned (.tuple #[])∧aV w' g (dP r a b)∧Ch (· =g) w w':=by
 subst hn;have i1:(a:Int)≤(b:Int):=by omega
 have i3:a<r.length:=by omega
 have i4:r.length≠a:=by omega
 have i2:(b:Int)≤(r.length:Int):=by omega
 have s1:=iy g a r.length r w hr (by omega);have s2:∀u,aV u g (aJ r a)→_:=fun u hu=>iy g b (aJ r a).length (aJ r a) u hu (by omega);rw[aH]at s2;have hl2:(aJ (aJ r a) b).length=r.length:=by rw[aH,aH]
 go_enter func187,ntmps187;go_wp2_with (first|(go_at_call 168;refine(nY g (a*7) a (b-a) _ _ _ rfl h2 (by rw[hl2];omega) (by rw[hl2];omega)).mono ?_;rintro e w3 ⟨rfl,h3,c3⟩)|(go_at_call 167;refine(s2 _ h1).mono ?_;rintro e w2 ⟨rfl,h2,c2⟩)|(go_at_call 167;refine s1.mono ?_;rintro e w1 ⟨rfl,h1,c1⟩));go_end0;exact⟨rfl,h3,(c1.trans c2).trans c3⟩
theorem v_{rest:List Oper}{o:Oper}(u:World)(hgd:o.guard=none)(ty:TypeId)(hsz:(prog.info? ty).map (·.size)=some 1)(x y:Operand)(ho:o.op= .store ty x y)(g j:Nat)(L L':List Value)(v:Value)(hj:j<L.length)(hx:a.eval x= .pointer (some ⟨g,j,none⟩))(hy:a.eval y=v)(h1:v.oneCell'=true)(hv:v.cells= #[v])(hL:L.set j v=L')(t:TypeId)(hg:u.heap[g]? =some (.cells L.toArray t (0,0)))(h:∀u',u'.heap[g]? =some (.cells L'.toArray t (0,0))→Ch (· =g) u u'→u'.heap.size=u.heap.size→wpList prog ops Q rest (a.put o.dst undef) u'):wpList prog ops Q (o::rest) a u:=by
 have hc:u.cell? ⟨g,j,none⟩=some L[j]:=by rw[bG _ _ _ _ _ _ hg];simp[hj]
 have hf:=oh u g j _ t hg;refine oq hgd fun K hK=>?_;have hset:L.toArray.setIfInBounds j v=L'.toArray:=by rw[←hL];simp
 have R:=hK _ _ (h (u.setCell ⟨g,j,none⟩ v) (by rw[rR u g j _ t _ hg,hset]) ((Ch.refl _ _).set _ _ _ (fun _=>rfl)) (by simp[World.setCell]));have hs:(sizeOf ty).run prog u= .ok 1 u:=by
  cases hq:prog.info? ty with
  |none=>simp[hq]at hsz
  |some i=>
   have:i.size=1:=by simpa[hq]using hsz
   simp[sizeOf,typeInfo,hq,this]
 have hst:(storeVar ty ⟨g,j,none⟩ v).run prog u= .ok () (u.setCell ⟨g,j,none⟩ v):=by
  have e0:∀i,i<[v].length→i=0:=fun i hi=>by simpa using hi
  have h2:=run_storeCells_cells (P:=prog) g j [v] 0 u (fun i hi=>by rw[e0 i hi,uw,hc];rfl) (fun i hi=>by rw[e0 i hi];exact hf) (fun z hz=>by rw[jg]at hz;rw[hz];exact h1);simp only[storeVar,jV,hs,jU,hv,Sem.run_ite];simpa[World.setCells]using h2
 unfold Oper.wp execOp;simp only[ho,hx,hy,Instr.storeAt,Instr.sureAddr,jV,mK,jU,hst];exact R
theorem yD:∀(r:List aI) (i:Nat),(kN r)[i]? =(r[i / 7]?).bind fun c=>(cellV c)[i % 7]?
 | [],i=>by simp[kN]
 |c::r,i=>by
  rw[kN];by_cases h:i<7
  ·rw[qA (by rw[fF];exact h),Nat.div_eq_of_lt h,Nat.mod_eq_of_lt h];rfl
  ·rw[og (by rw[fF];omega),fF,yD r,show i / 7=(i-7) / 7+1 by omega,show i % 7=(i-7) % 7 by omega,F5]
theorem NP(r:List aI)(k:Nat)(c:aI)(p:Int)(h:r[k]? =some c):(kN r).set (k*7+6) (.int .i64 p)=kN (r.set k ⟨c.r,c.p,p⟩):=by
 apply List.ext_getElem?;intro i;have hk:=(gJ.1 h).1;rw[xX,yD,yD,eO,xX];by_cases hi:k*7+6=i
 ·subst hi;rw[ak rfl,ak (by omega),ak (by omega),ak hk,show(k*7+6) % 7=6 by omega];rfl
 ·rw[ai hi];by_cases hq:k=i / 7
  ·rw[ak hq,ak hk, ←hq,h];have:i % 7<6:=by omega
   simp only[zV,cellV];rcases(show i % 7=0∨i % 7=1∨i % 7=2∨i % 7=3∨i % 7=4∨i % 7=5 by omega)with e|e|e|e|e|e<;>rw[e]<;>rfl
  ·rw[ai hq]
theorem zq:(prog.info? 3).map (·.size)=some 1:=by kernel_rfl
theorem xA:(prog.info? 4).map (·.size)=some 1:=by kernel_rfl
theorem lU:(prog.info? 80).map (·.size)=some 5:=by kernel_rfl
end Go.Proofs.YtheibfffilomcaaGreatDoor
