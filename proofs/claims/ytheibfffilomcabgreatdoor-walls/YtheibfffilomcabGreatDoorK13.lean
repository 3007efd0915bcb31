import Derived.Test.YtheibfffilomcabGreatDoorEvnU
import Derived.Test.YtheibfffilomcabGreatDoorK12U
import Derived.Test.YtheibfffilomcabGreatDoorS17
set_option linter.all false
set_option maxRecDepth 100000
set_option maxHeartbeats 4000000
namespace Go.Proofs.YtheibfffilomcabGreatDoor
open Go.Ren Go.Conc Go.ConcN Go.RowKit Go.Conc.Lib Go.ConcR.Gen Go.ConcN.Gen Go.Proofs.Tryz
open Go.ConcR (KK wgBlock WgAt stA smA rd wr Payload Aside2 DC0 ofEvent_cell)
set_option linter.unusedSimpArgs false
set_option linter.unusedVariables false
section
variable {main:Bool} {Bs S:Nat→Prop} {Stop:(Nat→Prop)→Goroutine→World→Prop} {w:World} {b:Frame} {a:Act} {kk:List Item} {cs:List Frame} {ops:Array Oper} {i:Nat} {rest:List Nat} {o:Oper}
theorem yS{o₀:Obj}{v:World→Value}(ho:ops[i]? =some o)(hw:Region.wanted o (yielded ops a.tmps)=true)(hk:b.kind≠ .early)(hr:∀w,(execOp a.eval o).run prog w= .ok (.value (v w)) (w.alloc o₀))(he:∀w,(execOp a.eval o).events prog w #[]= #[])(h:∀w₁ S',RY (fun b=>Bs b∨S b) w w₁→(∀b,S b→S' b)→S' w₁.heap.size→GE prog main Bs Stop S' (G (b.at (a.put o.dst (v w₁)) (.inRegion ops rest::kk)) cs) (w₁.alloc o₀)):
 GE prog main Bs Stop S (G (b.at a (.inRegion ops (i::rest)::kk)) cs) w:=by
 refine GE.step rfl fun w₁ q=>?_;have hl:listed prog b.fn a o w₁= #[]:=by unfold listed;rw[he,seen_none]
 refine⟨_,_,_,stepG_value ho hw hk (hr w₁),?_,h w₁ _ q (fun b hb=>.inl hb) (.inr ⟨bE _,by simp⟩)⟩;rw[hl];exact⟨fun x hx _=>h_ _ _ _ hx,by simp,rfl,rfl,rfl,fun e he=>by simp at he⟩
theorem UI{t:TypeId}{x y:Operand}{ad:Addr}{v:Value}(ho:ops[i]? =some o)(hw:Region.wanted o (yielded ops a.tmps)=true)(hk:b.kind≠ .early)(hr:∀w u,w.cell? ad=some u→w.frozen? ad=false→(execOp a.eval o).run prog w= .ok .skip (w.setCell ad v)∧(execOp a.eval o).events prog w #[]= #[⟨.cell ad,true,false⟩])(hS:S ad.block)(hc:∀w₁,RY (fun b=>Bs b∨S b) w w₁→∃u,w₁.cell? ad=some u∧w₁.frozen? ad=false)(hq:(prog.funcs[b.fn]?).any (·.norace)=false)(h:∀w₁,RY (fun b=>Bs b∨S b) w w₁→GE prog main Bs Stop S (G (b.at (a.put o.dst undef) (.inRegion ops rest::kk)) cs) (w₁.setCell ad v)):
 GE prog main Bs Stop S (G (b.at a (.inRegion ops (i::rest)::kk)) cs) w:=by
 refine GE.step rfl fun w₁ q=>?_;obtain⟨u,hu,hz⟩:=hc w₁ q;obtain⟨h1,h2⟩:=hr w₁ u hu hz;have hl:listed prog b.fn a o w₁= #[⟨.cell ad,true,false⟩]:=by unfold listed;rw[h2,Go.Conc.seen_eq hq (by simp)]
 have hA:=aside_setCell w₁ ad v;have eS:grown S w₁ (w₁.setCell ad v)=S:=yU hA.size;refine⟨_,_,_,stepG_none ho hw hk h1,?_,by rw[eS];exact h w₁ q⟩;rw[hl];refine⟨fun x hx hn=>hA.block x fun e=>hn (e▸hS),Nat.le_of_eq hA.size.symm,hA.tape,hA.os,hA.output,fun e he=>?_⟩;rw[Array.mem_singleton]at he;subst he;exact .inl ⟨ad,rfl,.inl hS⟩
end
noncomputable def z0:Array Oper:=match mI with| .seq (.region _ ops _) _=>ops|_=>#[]
noncomputable def z1:Array Oper:=match mI with| .seq _ (.seq (.seq (.region _ ops _) _) _)=>ops|_=>#[]
noncomputable def cA:Code:=match mI with| .seq _ (.seq (.seq _ (.cond _ c _)) _)=>c|_=>.skip
noncomputable def z3:Array Oper:=match mI with| .seq _ (.seq _ (.seq (.seq (.region _ ops _) _) _))=>ops|_=>#[]
noncomputable def cB:Code:=match mI with| .seq _ (.seq _ (.seq (.seq _ (.cond _ c _)) _))=>c|_=>.skip
noncomputable def z5:Array Oper:=match mI with| .seq _ (.seq _ (.seq _ (.seq (.region _ ops _) _)))=>ops|_=>#[]
noncomputable def z6:Array Oper:=match mI with| .seq _ (.seq _ (.seq _ (.seq _ (.seq (.region _ ops _) _))))=>ops|_=>#[]
noncomputable def z7:Array Oper:=match mI with| .seq _ (.seq _ (.seq _ (.seq _ (.seq _ (.seq (.seq (.region _ ops _) _) _)))))=>ops|_=>#[]
theorem N8:mI= .seq (.region 0 z0 false) (.seq (.seq (.region 1 z1 false) (.cond (.tmp 15) cA .skip)) (.seq (.seq (.region 3 z3 false) (.cond (.tmp 18) cB .skip)) (.seq (.region 5 z5 false) (.seq (.region 6 z6 false) (.seq (.seq (.region 7 z7 false) (.block 0 (.loop LB))) MR))))):=rfl
theorem s0:List.range z0.size=[0,1,2,3]:=rfl
theorem s1:List.range z1.size=[0,1,2,3]:=rfl
theorem s3:List.range z3.size=[0,1,2]:=rfl
theorem s5:List.range z5.size=[0,1,2,3,4]:=rfl
theorem s6:List.range z6.size=[0]:=rfl
theorem s7:List.range z7.size=[0,1,2]:=rfl
theorem adk:z0[0]? =some {dst:=some 3,op:=.box 3 (.tmp 0),type:=0,pos:= "slate.go:104",after:=#[],guard:=none}:=rfl
theorem adl:z0[1]? =some {dst:=some 4,op:=.box 3 (.tmp 1),type:=0,pos:= "slate.go:104",after:=#[],guard:=none}:=rfl
theorem adm:z0[2]? =some {dst:=some 6,op:=.assign (.const (.slice none 0 0)),type:=24,pos:= "slate.go:104",after:=#[],guard:=none}:=rfl
theorem adn:z0[3]? =some {dst:=some 7,op:=.assign (.const (.int .i64 0)),type:=25,pos:= "slate.go:104",after:=#[{on:=2,ground:=.chain}],guard:=none}:=rfl
theorem ado:z1[0]? =some {dst:=some 12,op:=.load 3 (.tmp 3),type:=3,pos:= "slate.go:105",after:=#[],guard:=none}:=rfl
theorem adp:z1[1]? =some {dst:=some 13,op:=.load 3 (.tmp 4),type:=3,pos:= "slate.go:105",after:=#[],guard:=none}:=rfl
theorem adq:z1[2]? =some {dst:=some 14,op:=.call {callee:=.value (.func 11),args:=#[.tmp 12,.tmp 13],argTypes:=#[3,3]},type:=4,pos:= "slate.go:105",after:=#[{on:=0,ground:=.data},{on:=1,ground:=.data}],guard:=none}:=rfl
theorem adr:z1[3]? =some {dst:=some 15,op:=.unOp .not 4 (.tmp 14),type:=4,pos:= "slate.go:105",after:=#[{on:=2,ground:=.data}],guard:=none}:=rfl
theorem ads:z3[0]? =some {dst:=some 16,op:=.move (.tmp 2),type:=24,pos:= "slate.go:108",after:=#[],guard:=none}:=rfl
theorem adt:z3[1]? =some {dst:=some 17,op:=.call {callee:=.builtin .len,args:=#[.tmp 16],argTypes:=#[24]},type:=3,pos:= "slate.go:108",after:=#[{on:=0,ground:=.data}],guard:=none}:=rfl
theorem adu:z3[2]? =some {dst:=some 18,op:=.binOp .gtr 3 (.tmp 17) (.const (.int .i64 16)) 3,type:=4,pos:= "slate.go:108",after:=#[{on:=1,ground:=.data}],guard:=none}:=rfl
theorem adv:z5[0]? =some {dst:=some 19,op:=.move (.tmp 2),type:=24,pos:= "slate.go:111",after:=#[],guard:=none}:=rfl
theorem adw:z5[1]? =some {dst:=some 20,op:=.call {callee:=.builtin .len,args:=#[.tmp 19],argTypes:=#[24]},type:=3,pos:= "slate.go:111",after:=#[{on:=0,ground:=.data}],guard:=none}:=rfl
theorem adx:z5[2]? =some {dst:=some 21,op:=.makeSlice 24 (.tmp 20) (.tmp 20),type:=24,pos:= "slate.go:111",after:=#[{on:=1,ground:=.data},{on:=1,ground:=.data}],guard:=none}:=rfl
theorem ady:z5[3]? =some {dst:=some 8,op:=.alloc 24,type:=0,pos:= "slate.go:111",after:=#[],guard:=none}:=rfl
theorem adz:z5[4]? =some {dst:=none,op:=.store 24 (.tmp 8) (.tmp 21),type:=0,pos:= "slate.go:111",after:=#[{on:=3,ground:=.data},{on:=2,ground:=.data},{on:=0,ground:=.phase},{on:=1,ground:=.phase},{on:=2,ground:=.phase},{on:=3,ground:=.phase}],guard:=none}:=rfl
theorem adA:z6[0]? =some {dst:=some 9,op:=.alloc 47,type:=0,pos:= "slate.go:112",after:=#[],guard:=none}:=rfl
theorem adB:z7[0]? =some {dst:=some 22,op:=.move (.tmp 2),type:=24,pos:= "slate.go:113",after:=#[],guard:=none}:=rfl
theorem adC:z7[1]? =some {dst:=some 23,op:=.call {callee:=.builtin .len,args:=#[.tmp 22],argTypes:=#[24]},type:=3,pos:= "slate.go:113",after:=#[{on:=0,ground:=.data}],guard:=none}:=rfl
theorem adD:z7[2]? =some {dst:=some 24,op:=.move (.const (.int .i64 0)),type:=3,pos:= "slate.go:113",after:=#[],guard:=none}:=rfl
theorem acL:(f11.name== "runtime.NumGoroutine")=false:=by kernel_rfl
section
variable {main:Bool} {Bs S:Nat→Prop} {Stop:(Nat→Prop)→Goroutine→World→Prop} {w:World}
theorem K6{b:Frame}{a:Act}{kk:List Item}{cs:List Frame}{rest:List Nat}(hk:b.kind≠ .early){rows aa:Nat}(hr:1≤rows∧rows≤12)(hc:1≤aa∧aa≤40)(h12:a.eval (.tmp 12)= .int .i64 rows)(h13:a.eval (.tmp 13)= .int .i64 aa)(h:∀w₁,RY (fun b=>Bs b∨S b) w w₁→GE prog main Bs Stop S (G (b.at (a.put (some 14) (.bool true)) (.inRegion z1 rest::kk)) cs) w₁):GE prog main Bs Stop S (G (b.at a (.inRegion z1 (2::rest)::kk)) cs) w:=by
 have r1:(1:Int)≤(rows:Int):=by omega
 have r2:(rows:Int)≤12:=by omega
 have c1:(1:Int)≤(aa:Int):=by omega
 have c2:(aa:Int)≤40:=by omega
 have hF:∀{w₁:World},RY (fun b=>Bs b∨S b) w w₁→RY (fun b=>Bs b∨S b) w w₁:=id;have hF:=RY.refl (K:=fun b=>Bs b∨S b) w;have rl:∀{w₁ w₂:World},RY (fun b=>Bs b∨S b) w w₁→RY (fun b=>Bs b∨S b) w₁ w₂→RY (fun b=>Bs b∨S b) w w₂:=fun x y=>x.trans y;refine GE.uJ (m:=25) ?_
 u_in rl hF
 refine goes_call adq rfl hk rfl func11 acL rfl ⟨⟨rfl,rfl⟩,?_⟩;simp only[List.map_toArray,List.map_cons,List.map_nil,h12,h13]
 walk_nrmf f11
 u_c stepG_seq rl hF;u_reg rl hF;u_op rl hF;u_c stepG_region_end rl hF;u_c stepG_seq rl hF;u_reg rl hF
 iterate 15 u_op rl hF
 u_c stepG_region_end rl hF
 u_c stepG_ret' rl hF
 u_leave1 func11 rl hF
 exact Go.Conc.Goes.stop fun w₁ y=>h w₁ (rl hF y)
end
end Go.Proofs.YtheibfffilomcabGreatDoor
