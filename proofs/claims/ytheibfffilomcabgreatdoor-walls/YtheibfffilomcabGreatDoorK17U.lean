import Derived.Test.YtheibfffilomcabGreatDoorEvnU
import Derived.Test.YtheibfffilomcabGreatDoorK15U
set_option linter.all false
namespace Go.Proofs.YtheibfffilomcabGreatDoor
open Go.Ren Go.Conc Go.ConcN Go.RowKit Go.Conc.Lib Go.ConcR.Gen Go.ConcN.Gen Go.Proofs.Tryz
variable {n k d N0:Nat} {L:List (Nat × Value)} {a:Act} {v:Value} {w:World} {xs:List Value}
open Go.ConcR (KK wgBlock WgAt stA smA rd wr Payload Aside2 DC0 ofEvent_cell)
set_option linter.unusedSimpArgs false
set_option linter.unusedVariables false
def b3:Frame:=base 3
theorem xu:(prog.funcs[b3.fn]?).any (·.norace)=false:=by kernel_rfl
noncomputable def lI:Code:=f3.body.getD .skip
noncomputable def e0:Array Oper:=match lI with| .seq (.region _ ops _) _=>ops|_=>#[]
noncomputable def e1:Array Oper:=match lI with| .seq _ (.seq (.region _ ops _) _)=>ops|_=>#[]
noncomputable def e2:Array Oper:=match lI with| .seq _ (.seq _ (.seq (.seq (.region _ ops _) _) _))=>ops|_=>#[]
noncomputable def e6:Array Oper:=match lI with| .seq _ (.seq _ (.seq _ (.seq (.region _ ops _) _)))=>ops|_=>#[]
noncomputable def e7:Array Oper:=match lI with| .seq _ (.seq _ (.seq _ (.seq _ (.seq (.seq (.region _ ops _) _) _))))=>ops|_=>#[]
noncomputable def e8:Array Oper:=match lI with| .seq _ (.seq _ (.seq _ (.seq _ (.seq (.seq _ (.cond _ (.seq (.region _ ops _) _) _)) _))))=>ops|_=>#[]
noncomputable def e9:Array Oper:=match lI with| .seq _ (.seq _ (.seq _ (.seq _ (.seq _ (.seq (.seq (.region _ ops _) _) _)))))=>ops|_=>#[]
noncomputable def e18:Array Oper:=match lI with| .seq _ (.seq _ (.seq _ (.seq _ (.seq _ (.seq _ (.seq (.region _ ops _) _))))))=>ops|_=>#[]
noncomputable def LA:Code:=match lI with| .seq _ (.seq _ (.seq (.seq _ (.block _ (.loop c))) _))=>c|_=>.skip
noncomputable def LC:Code:=match lI with| .seq _ (.seq _ (.seq _ (.seq _ (.seq _ (.seq (.seq _ (.block _ (.loop c))) _)))))=>c|_=>.skip
noncomputable def e3:Array Oper:=match LA with| .seq (.seq (.region _ ops _) _) _=>ops|_=>#[]
noncomputable def e5:Array Oper:=match LA with| .seq _ (.seq (.block _ (.region _ ops _)) _)=>ops|_=>#[]
noncomputable def e4:Array Oper:=match LA with| .seq _ (.seq _ (.region _ ops _))=>ops|_=>#[]
noncomputable def e10:Array Oper:=match LC with| .seq (.seq (.region _ ops _) _) _=>ops|_=>#[]
noncomputable def e11:Array Oper:=match LC with| .seq _ (.seq _ (.region _ ops _))=>ops|_=>#[]
noncomputable def e12:Array Oper:=match LC with| .seq _ (.seq (.block _ (.seq (.region _ ops _) _)) _)=>ops|_=>#[]
noncomputable def e13:Array Oper:=match LC with| .seq _ (.seq (.block _ (.seq _ (.seq (.seq (.region _ ops _) _) _))) _)=>ops|_=>#[]
noncomputable def e14:Array Oper:=match LC with| .seq _ (.seq (.block _ (.seq _ (.seq (.seq _ (.cond _ (.seq (.region _ ops _) _) _)) _))) _)=>ops|_=>#[]
noncomputable def e15:Array Oper:=match LC with| .seq _ (.seq (.block _ (.seq _ (.seq _ (.seq (.region _ ops _) _)))) _)=>ops|_=>#[]
noncomputable def e16:Array Oper:=match LC with| .seq _ (.seq (.block _ (.seq _ (.seq _ (.seq _ (.seq (.region _ ops _) _))))) _)=>ops|_=>#[]
noncomputable def e17:Array Oper:=match LC with| .seq _ (.seq (.block _ (.seq _ (.seq _ (.seq _ (.seq _ (.cond _ (.seq (.region _ ops _) _) _)))))) _)=>ops|_=>#[]
noncomputable def RC:Code:=.seq (.seq (.region 9 e9 false) (.block 2 (.loop LC))) (.seq (.region 18 e18 false) .ret)
noncomputable def RB:Code:=.seq (.seq (.region 7 e7 false) (.cond (.tmp 47) (.seq (.region 8 e8 false) .ret) .skip)) RC
noncomputable def RA:Code:=.seq (.region 6 e6 true) RB
theorem N7:lI= .seq (.region 0 e0 false) (.seq (.region 1 e1 false) (.seq (.seq (.region 2 e2 false) (.block 0 (.loop LA))) RA)):=rfl
theorem Xm:LA= .seq (.seq (.region 3 e3 false) (.cond (.tmp 20) .skip (.exit 0))) (.seq (.block 1 (.region 5 e5 false)) (.region 4 e4 false)):=rfl
theorem Xn:LC= .seq (.seq (.region 10 e10 false) (.cond (.tmp 51) .skip (.exit 2))) (.seq (.block 3 (.seq (.region 12 e12 true) (.seq (.seq (.region 13 e13 false) (.cond (.tmp 65) (.seq (.region 14 e14 false) .ret) .skip)) (.seq (.region 15 e15 false) (.seq (.region 16 e16 false) (.cond (.tmp 73) (.seq (.region 17 e17 false) .ret) .skip)))))) (.region 11 e11 false)):=rfl
theorem rg0:List.range e0.size=[0,1]:=rfl
theorem abk:e0[0]? =some {dst:=some 2,op:=.box 23 (.tmp 0),type:=0,pos:= "keeps.go:323",after:=#[],guard:=none}:=rfl
theorem abl:e0[1]? =some {dst:=some 4,op:=.assign (.const (.bool false)),type:=4,pos:= "keeps.go:323",after:=#[],guard:=none}:=rfl
theorem rg1:List.range e1.size=[0]:=rfl
theorem abm:e1[0]? =some {dst:=some 5,op:=.assign (.const (.slice none 0 0)),type:=24,pos:= "keeps.go:324",after:=#[],guard:=none}:=rfl
theorem rg2:List.range e2.size=[0]:=rfl
theorem abn:e2[0]? =some {dst:=some 6,op:=.assign (.const (.int .i64 0)),type:=3,pos:= "keeps.go:325",after:=#[],guard:=none}:=rfl
theorem rg3:List.range e3.size=[0,1,2,3,4,5,6,7]:=rfl
theorem TK:e3[0]? =some {dst:=some 13,op:=.move (.tmp 6),type:=3,pos:= "keeps.go:325",after:=#[],guard:=none}:=rfl
theorem TL:e3[1]? =some {dst:=some 14,op:=.move (.tmp 1),type:=24,pos:= "keeps.go:325",after:=#[],guard:=none}:=rfl
theorem TM:e3[2]? =some {dst:=some 15,op:=.call {callee:=.builtin .len,args:=#[.tmp 14],argTypes:=#[24]},type:=3,pos:= "keeps.go:325",after:=#[{on:=1,ground:=.data}],guard:=none}:=rfl
theorem TN:e3[3]? =some {dst:=some 16,op:=.binOp .lss 3 (.tmp 13) (.tmp 15) 3,type:=4,pos:= "keeps.go:325",after:=#[{on:=0,ground:=.data},{on:=2,ground:=.data}],guard:=none}:=rfl
theorem TR:e3[4]? =some {dst:=some 17,op:=.move (.tmp 16),type:=4,pos:= "keeps.go:325",after:=#[{on:=3,ground:=.data}],guard:=none}:=rfl
theorem TT:e3[5]? =some {dst:=some 18,op:=.move (.tmp 6),type:=3,pos:= "keeps.go:325",after:=#[{on:=4,ground:=.guard}],guard:=some (4,true)}:=rfl
theorem TU:e3[6]? =some {dst:=some 19,op:=.binOp .lss 3 (.tmp 18) (.const (.int .i64 16)) 3,type:=4,pos:= "keeps.go:325",after:=#[{on:=5,ground:=.data},{on:=4,ground:=.guard}],guard:=some (4,true)}:=rfl
theorem TW:e3[7]? =some {dst:=some 20,op:=.pick (.tmp 17) (.tmp 19) (.const (.bool false)),type:=4,pos:= "keeps.go:325",after:=#[{on:=4,ground:=.data},{on:=6,ground:=.data}],guard:=none}:=rfl
theorem rg4:List.range e4.size=[0,1,2]:=rfl
theorem abo:e4[0]? =some {dst:=some 21,op:=.move (.tmp 6),type:=3,pos:= "keeps.go:325",after:=#[],guard:=none}:=rfl
theorem abp:e4[1]? =some {dst:=some 22,op:=.binOp .add 3 (.tmp 21) (.const (.int .i64 1)) 3,type:=3,pos:= "keeps.go:325",after:=#[{on:=0,ground:=.data}],guard:=none}:=rfl
theorem abq:e4[2]? =some {dst:=some 6,op:=.assign (.tmp 22),type:=3,pos:= "keeps.go:325",after:=#[{on:=1,ground:=.data},{on:=0,ground:=.phase},{on:=1,ground:=.phase}],guard:=none}:=rfl
theorem rg5:List.range e5.size=[0,1,2,3,4,5,6,7]:=rfl
theorem abr:e5[0]? =some {dst:=some 23,op:=.move (.tmp 5),type:=24,pos:= "keeps.go:326",after:=#[],guard:=none}:=rfl
theorem abt:e5[1]? =some {dst:=some 24,op:=.move (.tmp 1),type:=24,pos:= "keeps.go:326",after:=#[],guard:=none}:=rfl
theorem abu:e5[2]? =some {dst:=some 25,op:=.move (.tmp 6),type:=3,pos:= "keeps.go:326",after:=#[],guard:=none}:=rfl
theorem abv:e5[3]? =some {dst:=some 26,op:=.indexAddr 24 (.tmp 24) (.tmp 25),type:=0,pos:= "keeps.go:326",after:=#[{on:=1,ground:=.data},{on:=2,ground:=.data}],guard:=none}:=rfl
theorem abw:e5[4]? =some {dst:=some 27,op:=.load 9 (.tmp 26),type:=9,pos:= "keeps.go:326",after:=#[{on:=3,ground:=.data}],guard:=none}:=rfl
theorem abx:e5[5]? =some {dst:=some 28,op:=.buildSlice 24 1 #[(0,.tmp 27)],type:=24,pos:= "keeps.go:326",after:=#[{on:=4,ground:=.data}],guard:=none}:=rfl
theorem aby:e5[6]? =some {dst:=some 29,op:=.call {callee:=.builtin .append,args:=#[.tmp 23,.tmp 28],argTypes:=#[24,24]},type:=24,pos:= "keeps.go:326",after:=#[{on:=0,ground:=.data},{on:=5,ground:=.data}],guard:=none}:=rfl
theorem abz:e5[7]? =some {dst:=some 5,op:=.assign (.tmp 29),type:=24,pos:= "keeps.go:326",after:=#[{on:=6,ground:=.data},{on:=6,ground:=.chain},{on:=0,ground:=.phase},{on:=1,ground:=.phase},{on:=2,ground:=.phase},{on:=3,ground:=.phase},{on:=4,ground:=.phase},{on:=5,ground:=.phase},{on:=6,ground:=.phase}],guard:=none}:=rfl
theorem abA:e6[0]? =some {dst:=some 31,op:=.load 23 (.tmp 2),type:=23,pos:= "keeps.go:328",after:=#[],guard:=none}:=rfl
theorem abB:e6[1]? =some {dst:=some 32,op:=.call {callee:=.value (.func 6),args:=#[.tmp 31],argTypes:=#[23]},type:=3,pos:= "keeps.go:328",after:=#[{on:=0,ground:=.data}],guard:=none}:=rfl
theorem abC:e6[2]? =some {dst:=some 33,op:=.load 23 (.tmp 2),type:=23,pos:= "keeps.go:328",after:=#[],guard:=none}:=rfl
theorem abD:e6[3]? =some {dst:=some 34,op:=.call {callee:=.value (.func 7),args:=#[.tmp 33],argTypes:=#[23]},type:=3,pos:= "keeps.go:328",after:=#[{on:=2,ground:=.data},{on:=1,ground:=.chain}],guard:=none}:=rfl
theorem abE:e6[4]? =some {dst:=some 35,op:=.move (.tmp 5),type:=24,pos:= "keeps.go:328",after:=#[],guard:=none}:=rfl
theorem abF:e6[5]? =some {dst:=some 36,op:=.call {callee:=.value (.func 5),args:=#[.tmp 32,.tmp 34,.tmp 35],argTypes:=#[3,3,24]},type:=26,pos:= "keeps.go:328",after:=#[{on:=1,ground:=.data},{on:=3,ground:=.data},{on:=4,ground:=.data},{on:=3,ground:=.chain}],guard:=none}:=rfl
theorem TY:e6[6]? =some {dst:=some 30,op:=.move (.tmp 36),type:=26,pos:= "keeps.go:328",after:=#[{on:=5,ground:=.data}],guard:=none}:=rfl
theorem TZ:e6[7]? =some {dst:=some 37,op:=.extract (.tmp 30) 0,type:=24,pos:= "keeps.go:328",after:=#[{on:=6,ground:=.data}],guard:=none}:=rfl
theorem T9:e6[8]? =some {dst:=some 38,op:=.extract (.tmp 30) 1,type:=25,pos:= "keeps.go:328",after:=#[{on:=6,ground:=.data},{on:=9,ground:=.gcOnly Go.Departure.lateStores}],guard:=none}:=rfl
theorem T_:e6[9]? =some {dst:=some 7,op:=.assign (.tmp 37),type:=24,pos:= "keeps.go:328",after:=#[{on:=7,ground:=.data},{on:=5,ground:=.chain},{on:=0,ground:=.phase},{on:=1,ground:=.phase},{on:=2,ground:=.phase},{on:=3,ground:=.phase},{on:=4,ground:=.phase},{on:=5,ground:=.phase},{on:=6,ground:=.phase},{on:=7,ground:=.phase},{on:=8,ground:=.textOnly Go.Departure.lateStores}],guard:=none}:=rfl
theorem Oe:e6[10]? =some {dst:=some 8,op:=.assign (.tmp 38),type:=25,pos:= "keeps.go:328",after:=#[{on:=8,ground:=.data},{on:=9,ground:=.chain},{on:=0,ground:=.phase},{on:=1,ground:=.phase},{on:=2,ground:=.phase},{on:=3,ground:=.phase},{on:=4,ground:=.phase},{on:=5,ground:=.phase},{on:=6,ground:=.phase},{on:=7,ground:=.phase},{on:=8,ground:=.phase},{on:=9,ground:=.phase}],guard:=none}:=rfl
theorem rg7:List.range e7.size=[0,1,2,3,4,5,6,7,8]:=rfl
theorem abG:e7[0]? =some {dst:=some 39,op:=.move (.tmp 8),type:=25,pos:= "keeps.go:329",after:=#[],guard:=none}:=rfl
theorem abH:e7[1]? =some {dst:=some 40,op:=.binOp .neq 25 (.tmp 39) (.const (.int .i64 0)) 25,type:=4,pos:= "keeps.go:329",after:=#[{on:=0,ground:=.data}],guard:=none}:=rfl
theorem abI:e7[2]? =some {dst:=some 41,op:=.move (.tmp 40),type:=4,pos:= "keeps.go:329",after:=#[{on:=1,ground:=.data}],guard:=none}:=rfl
theorem abJ:e7[3]? =some {dst:=some 42,op:=.move (.tmp 7),type:=24,pos:= "keeps.go:329",after:=#[{on:=2,ground:=.guard}],guard:=some (2,false)}:=rfl
theorem abK:e7[4]? =some {dst:=some 43,op:=.call {callee:=.builtin .len,args:=#[.tmp 42],argTypes:=#[24]},type:=3,pos:= "keeps.go:329",after:=#[{on:=3,ground:=.data},{on:=2,ground:=.guard}],guard:=some (2,false)}:=rfl
theorem abL:e7[5]? =some {dst:=some 44,op:=.move (.tmp 5),type:=24,pos:= "keeps.go:329",after:=#[{on:=2,ground:=.guard}],guard:=some (2,false)}:=rfl
theorem abM:e7[6]? =some {dst:=some 45,op:=.call {callee:=.builtin .len,args:=#[.tmp 44],argTypes:=#[24]},type:=3,pos:= "keeps.go:329",after:=#[{on:=5,ground:=.data},{on:=2,ground:=.guard}],guard:=some (2,false)}:=rfl
theorem abN:e7[7]? =some {dst:=some 46,op:=.binOp .neq 3 (.tmp 43) (.tmp 45) 3,type:=4,pos:= "keeps.go:329",after:=#[{on:=4,ground:=.data},{on:=6,ground:=.data},{on:=2,ground:=.guard}],guard:=some (2,false)}:=rfl
theorem abO:e7[8]? =some {dst:=some 47,op:=.pick (.tmp 41) (.const (.bool true)) (.tmp 46),type:=4,pos:= "keeps.go:329",after:=#[{on:=2,ground:=.data},{on:=7,ground:=.data}],guard:=none}:=rfl
theorem rg9:List.range e9.size=[0]:=rfl
theorem abP:e9[0]? =some {dst:=some 9,op:=.assign (.const (.int .i64 0)),type:=3,pos:= "keeps.go:332",after:=#[],guard:=none}:=rfl
theorem ZM:List.range e10.size=[0,1,2,3]:=rfl
theorem Sl:e10[0]? =some {dst:=some 48,op:=.move (.tmp 9),type:=3,pos:= "keeps.go:332",after:=#[],guard:=none}:=rfl
theorem Sn:e10[1]? =some {dst:=some 49,op:=.move (.tmp 5),type:=24,pos:= "keeps.go:332",after:=#[],guard:=none}:=rfl
theorem Sq:e10[2]? =some {dst:=some 50,op:=.call {callee:=.builtin .len,args:=#[.tmp 49],argTypes:=#[24]},type:=3,pos:= "keeps.go:332",after:=#[{on:=1,ground:=.data}],guard:=none}:=rfl
theorem Sr:e10[3]? =some {dst:=some 51,op:=.binOp .lss 3 (.tmp 48) (.tmp 50) 3,type:=4,pos:= "keeps.go:332",after:=#[{on:=0,ground:=.data},{on:=2,ground:=.data}],guard:=none}:=rfl
theorem acY:List.range e11.size=[0,1,2]:=rfl
theorem XF:e11[0]? =some {dst:=some 52,op:=.move (.tmp 9),type:=3,pos:= "keeps.go:332",after:=#[],guard:=none}:=rfl
theorem XG:e11[1]? =some {dst:=some 53,op:=.binOp .add 3 (.tmp 52) (.const (.int .i64 1)) 3,type:=3,pos:= "keeps.go:332",after:=#[{on:=0,ground:=.data}],guard:=none}:=rfl
theorem XH:e11[2]? =some {dst:=some 9,op:=.assign (.tmp 53),type:=3,pos:= "keeps.go:332",after:=#[{on:=1,ground:=.data},{on:=0,ground:=.phase},{on:=1,ground:=.phase}],guard:=none}:=rfl
theorem Su:e12[0]? =some {dst:=some 55,op:=.load 23 (.tmp 2),type:=23,pos:= "keeps.go:333",after:=#[],guard:=none}:=rfl
theorem XI:e12[1]? =some {dst:=some 56,op:=.move (.tmp 5),type:=24,pos:= "keeps.go:333",after:=#[],guard:=none}:=rfl
theorem XJ:e12[2]? =some {dst:=some 57,op:=.move (.tmp 9),type:=3,pos:= "keeps.go:333",after:=#[],guard:=none}:=rfl
theorem XK:e12[3]? =some {dst:=some 58,op:=.indexAddr 24 (.tmp 56) (.tmp 57),type:=0,pos:= "keeps.go:333",after:=#[{on:=1,ground:=.data},{on:=2,ground:=.data}],guard:=none}:=rfl
theorem XL:e12[4]? =some {dst:=some 59,op:=.load 9 (.tmp 58),type:=9,pos:= "keeps.go:333",after:=#[{on:=3,ground:=.data}],guard:=none}:=rfl
theorem XM:e12[5]? =some {dst:=some 60,op:=.buildSlice 24 1 #[(0,.tmp 59)],type:=24,pos:= "keeps.go:333",after:=#[{on:=4,ground:=.data}],guard:=none}:=rfl
theorem XN:e12[6]? =some {dst:=some 61,op:=.call {callee:=.value (.func 8),args:=#[.tmp 55,.tmp 60],argTypes:=#[23,24]},type:=30,pos:= "keeps.go:333",after:=#[{on:=0,ground:=.data},{on:=5,ground:=.data}],guard:=none}:=rfl
theorem Ob:e12[7]? =some {dst:=some 54,op:=.move (.tmp 61),type:=30,pos:= "keeps.go:333",after:=#[{on:=6,ground:=.data}],guard:=none}:=rfl
theorem Oc:e12[8]? =some {dst:=some 62,op:=.extract (.tmp 54) 0,type:=29,pos:= "keeps.go:333",after:=#[{on:=7,ground:=.data}],guard:=none}:=rfl
theorem Od:e12[9]? =some {dst:=some 63,op:=.extract (.tmp 54) 1,type:=4,pos:= "keeps.go:333",after:=#[{on:=7,ground:=.data},{on:=10,ground:=.gcOnly Go.Departure.lateStores}],guard:=none}:=rfl
theorem GX:e12[10]? =some {dst:=some 10,op:=.assign (.tmp 62),type:=29,pos:= "keeps.go:333",after:=#[{on:=8,ground:=.data},{on:=6,ground:=.chain},{on:=0,ground:=.phase},{on:=1,ground:=.phase},{on:=2,ground:=.phase},{on:=3,ground:=.phase},{on:=4,ground:=.phase},{on:=5,ground:=.phase},{on:=6,ground:=.phase},{on:=7,ground:=.phase},{on:=8,ground:=.phase},{on:=9,ground:=.textOnly Go.Departure.lateStores}],guard:=none}:=rfl
theorem GZ:e12[11]? =some {dst:=some 11,op:=.assign (.tmp 63),type:=4,pos:= "keeps.go:333",after:=#[{on:=9,ground:=.data},{on:=10,ground:=.chain},{on:=0,ground:=.phase},{on:=1,ground:=.phase},{on:=2,ground:=.phase},{on:=3,ground:=.phase},{on:=4,ground:=.phase},{on:=5,ground:=.phase},{on:=6,ground:=.phase},{on:=7,ground:=.phase},{on:=8,ground:=.phase},{on:=9,ground:=.phase},{on:=10,ground:=.phase}],guard:=none}:=rfl
theorem acZ:List.range e13.size=[0,1]:=rfl
theorem XO:e13[0]? =some {dst:=some 64,op:=.move (.tmp 11),type:=4,pos:= "keeps.go:334",after:=#[],guard:=none}:=rfl
theorem XP:e13[1]? =some {dst:=some 65,op:=.unOp .not 4 (.tmp 64),type:=4,pos:= "keeps.go:334",after:=#[{on:=0,ground:=.data}],guard:=none}:=rfl
theorem ac0:List.range e15.size=[0,1,2]:=rfl
theorem XQ:e15[0]? =some {dst:=some 66,op:=.move (.tmp 10),type:=29,pos:= "keeps.go:337",after:=#[],guard:=none}:=rfl
theorem XR:e15[1]? =some {dst:=some 67,op:=.call {callee:=.value (.func 9),args:=#[.tmp 66],argTypes:=#[29]},type:=9,pos:= "keeps.go:337",after:=#[{on:=0,ground:=.data}],guard:=none}:=rfl
theorem XT:e15[2]? =some {dst:=some 12,op:=.assign (.tmp 67),type:=9,pos:= "keeps.go:337",after:=#[{on:=1,ground:=.data},{on:=1,ground:=.chain},{on:=0,ground:=.phase},{on:=1,ground:=.phase}],guard:=none}:=rfl
theorem ac1:List.range e16.size=[0,1,2,3,4,5]:=rfl
theorem XU:e16[0]? =some {dst:=some 68,op:=.move (.tmp 12),type:=9,pos:= "keeps.go:338",after:=#[],guard:=none}:=rfl
theorem XV:e16[1]? =some {dst:=some 69,op:=.move (.tmp 7),type:=24,pos:= "keeps.go:338",after:=#[],guard:=none}:=rfl
theorem XW:e16[2]? =some {dst:=some 70,op:=.move (.tmp 9),type:=3,pos:= "keeps.go:338",after:=#[],guard:=none}:=rfl
theorem XX:e16[3]? =some {dst:=some 71,op:=.indexAddr 24 (.tmp 69) (.tmp 70),type:=0,pos:= "keeps.go:338",after:=#[{on:=1,ground:=.data},{on:=2,ground:=.data}],guard:=none}:=rfl
theorem XY:e16[4]? =some {dst:=some 72,op:=.load 9 (.tmp 71),type:=9,pos:= "keeps.go:338",after:=#[{on:=3,ground:=.data}],guard:=none}:=rfl
theorem XZ:e16[5]? =some {dst:=some 73,op:=.binOp .neq 9 (.tmp 68) (.tmp 72) 9,type:=4,pos:= "keeps.go:338",after:=#[{on:=0,ground:=.data},{on:=4,ground:=.data}],guard:=none}:=rfl
theorem ac2:List.range e18.size=[0]:=rfl
theorem X4:e18[0]? =some {dst:=some 4,op:=.assign (.const (.bool true)),type:=4,pos:= "keeps.go:342",after:=#[],guard:=none}:=rfl
structure Kn (n:Nat) (L:List (Nat × Value)) (a:Act):Prop where
 sz:a.tmps.size=n
 df:a.defers=[]
 kn:∀p∈L,a.tmps[p.1]? =some p.2
theorem Kn.get(h:Kn n L a)(hm:(k,v)∈L):a.eval (.tmp k)=v:=by have:=h.kn _ hm;simp only at this;simp[Act.eval,this]
theorem Kn.at(h:Kn n L a)(hm:(k,v)∈L):a.tmps[k]? =some v:=h.kn _ hm
theorem Kn.sub{L':List (Nat × Value)}(h:Kn n L a)(hs:∀p∈L',p∈L):Kn n L' a:=⟨h.sz,h.df,fun p hp=>h.kn p (hs p hp)⟩
theorem Kn.put(h:Kn n L a)(hd:d<n)(hL:(L.all fun p=>p.1 != d)=true)(v:Value):Kn n ((d,v)::L) (a.put (some d) v):=by
 refine⟨by simp[Act.put,h.sz],by simp[Act.put,h.df],fun p hp=>?_⟩;rcases di.1 hp with rfl|hp
 ·simp only[Act.put];rw[Array.getElem?_setIfInBounds_self_of_lt (by rw[h.sz];exact hd)]
 ·have hne:p.1≠d:=by have:=List.all_eq_true.1 hL p hp;simpa using this
  simp only[Act.put];rw[Array.getElem?_setIfInBounds_ne (fun e=>hne e.symm)];exact h.kn p hp
theorem ai{o:Oper}{y:Nat→Option Bool}(h:o.guard=none):Region.wanted o y=true:=by simp[Region.wanted,h]
theorem Kn.wanted(h:Kn n L a){ops:Array Oper}{o:Oper}{j:Nat}{t t':Bool}(hg:o.guard=some (j,t))(hd:(ops[j]?).bind (·.dst)=some d)(hm:(d,.bool t')∈L):Region.wanted o (yielded ops a.tmps)=(t'==t):=by have:=h.kn _ hm;simp only at this;simp[Region.wanted,hg,yielded,hd,this]
section
variable {main:Bool} {Bs S:Nat→Prop} {Stop:(Nat→Prop)→Goroutine→World→Prop} {w:World} {b:Frame} {a:Act} {kk:List Item} {cs:List Frame} {ops:Array Oper} {i:Nat} {rest:List Nat} {o:Oper} {n:Nat} {L:List (Nat × Value)} {d:Nat} {v:Value}
theorem bZ(hK:Kn n L a)(ho:ops[i]? =some o)(hw:Region.wanted o (yielded ops a.tmps)=true)(hk:b.kind≠ .early)(hdst:o.dst=some d)(hd:d<n)(hL:(L.all fun p=>p.1 != d)=true)(hv:∀w,(execOp a.eval o).run prog w= .ok (.value v) w∧(execOp a.eval o).events prog w #[]= #[])(h:∀a' w₁,RY (fun b=>Bs b∨S b) w w₁→Kn n ((d,v)::L) a'→GE prog main Bs Stop S (G (b.at a' (.inRegion ops rest::kk)) cs) w₁):
 GE prog main Bs Stop S (G (b.at a (.inRegion ops (i::rest)::kk)) cs) w:=
 nV ho hw hk (fun w=>(hv w).1) (fun w=>(hv w).2) fun w₁ y=>by rw[hdst];exact h _ w₁ y (hK.put hd hL v)
theorem aR{x:Operand}(hK:Kn n L a)(ho:ops[i]? =some o)(hw:Region.wanted o (yielded ops a.tmps)=true)(hk:b.kind≠ .early)(hop:o.op= .move x∨o.op= .assign x)(hx:a.eval x=v)(hdst:o.dst=some d)(hd:d<n)(hL:(L.all fun p=>p.1 != d)=true)(h:∀a' w₁,RY (fun b=>Bs b∨S b) w w₁→Kn n ((d,v)::L) a'→GE prog main Bs Stop S (G (b.at a' (.inRegion ops rest::kk)) cs) w₁):
 GE prog main Bs Stop S (G (b.at a (.inRegion ops (i::rest)::kk)) cs) w:=
 lT ho hw hk hop hx fun w₁ y=>by rw[hdst];exact h _ w₁ y (hK.put hd hL v)
theorem J6(hK:Kn n L a)(ho:ops[i]? =some o)(hw:Region.wanted o (yielded ops a.tmps)=false)(hdst:o.dst=some d)(hd:d<n)(hL:(L.all fun p=>p.1 != d)=true)(h:∀a' w₁,RY (fun b=>Bs b∨S b) w w₁→Kn n ((d,undef)::L) a'→GE prog main Bs Stop S (G (b.at a' (.inRegion ops rest::kk)) cs) w₁):
 GE prog main Bs Stop S (G (b.at a (.inRegion ops (i::rest)::kk)) cs) w:=
 au rfl (fun _=>stepG_unwanted ho hw) fun w₁ y=>by rw[hdst];exact h _ w₁ y (hK.put hd hL undef)
theorem Ot{o₀:Obj}{v:World→Value}(hK:Kn n L a)(ho:ops[i]? =some o)(hw:Region.wanted o (yielded ops a.tmps)=true)(hk:b.kind≠ .early)(hdst:o.dst=some d)(hd:d<n)(hL:(L.all fun p=>p.1 != d)=true)(hr:∀w,(execOp a.eval o).run prog w= .ok (.value (v w)) (w.alloc o₀)∧(execOp a.eval o).events prog w #[]= #[])(h:∀a' w₁ S',RY (fun b=>Bs b∨S b) w w₁→(∀b,S b→S' b)→S' w₁.heap.size→Kn n ((d,v w₁)::L) a'→GE prog main Bs Stop S' (G (b.at a' (.inRegion ops rest::kk)) cs) (w₁.alloc o₀)):
 GE prog main Bs Stop S (G (b.at a (.inRegion ops (i::rest)::kk)) cs) w:=
 yS ho hw hk (fun w=>(hr w).1) (fun w=>(hr w).2) fun w₁ S' y h1 h2=>by rw[hdst];exact h _ w₁ S' y h1 h2 (hK.put hd hL (v w₁))
theorem J5{t:TypeId}(ht:t=3∨t=9∨t=24){x:Operand}{ad:Addr}(hK:Kn n L a)(ho:ops[i]? =some o)(hw:Region.wanted o (yielded ops a.tmps)=true)(hk:b.kind≠ .early)(hop:o.op= .load t x)(hx:a.eval x= .pointer (some ad))(hB:Bs ad.block∨S ad.block)(hc:∀w₁,RY (fun b=>Bs b∨S b) w w₁→w₁.cell? ad=some v)(hq:(prog.funcs[b.fn]?).any (·.norace)=false)(hdst:o.dst=some d)(hd:d<n)(hL:(L.all fun p=>p.1 != d)=true)(h:∀a' w₁,RY (fun b=>Bs b∨S b) w w₁→Kn n ((d,v)::L) a'→GE prog main Bs Stop S (G (b.at a' (.inRegion ops rest::kk)) cs) w₁):
 GE prog main Bs Stop S (G (b.at a (.inRegion ops (i::rest)::kk)) cs) w:=
 GE.read rfl hB fun w₁ y=>⟨jQ ht ho hw hk hop hx (hc w₁ y) hq,by rw[hdst];exact h _ w₁ y (hK.put hd hL v)⟩
theorem xY{x:Operand}{sb:Nat}{p q:Int}(hK:Kn n L a)(ho:ops[i]? =some o)(hw:Region.wanted o (yielded ops a.tmps)=true)(hk:b.kind≠ .early)(hop:o.op= .load 23 x)(hx:a.eval x= .pointer (some ⟨sb,0,none⟩))(hB:Bs sb∨S sb)(hc:w.heap[sb]? =some (.cells #[.int .i64 p,.int .i64 q] 23))(hq:(prog.funcs[b.fn]?).any (·.norace)=false)(hdst:o.dst=some d)(hd:d<n)(hL:(L.all fun p=>p.1 != d)=true)(h:∀a' w₁,RY (fun b=>Bs b∨S b) w w₁→Kn n ((d,.agg #[.int .i64 p,.int .i64 q])::L) a'→GE prog main Bs Stop S (G (b.at a' (.inRegion ops rest::kk)) cs) w₁):
 GE prog main Bs Stop S (G (b.at a (.inRegion ops (i::rest)::kk)) cs) w:=by
 refine GE.step rfl fun w₁ y=>?_;have hc1:w₁.heap[sb]? =some (.cells #[.int .i64 p,.int .i64 q] 23):=(y.keep sb hB).trans hc;have c0:w₁.cell? ⟨sb,0,none⟩=some (.int .i64 p):=by simp[World.cell?,hc1]
 have c1:w₁.cell? ⟨sb,1,none⟩=some (.int .i64 q):=by simp[World.cell?,hc1]
 have hr:(execOp a.eval o).run prog w₁= .ok (.value (.agg #[.int .i64 p,.int .i64 q])) w₁:=by unfold execOp;simp only[hop,hx];simp[go_sem,c0,c1]
 have he:(execOp a.eval o).events prog w₁ #[]= #[⟨.cell ⟨sb,0,none⟩,false,false⟩,⟨.cell ⟨sb,1,none⟩,false,false⟩]:=by unfold execOp;simp only[hop,hx];simp[go_sem,c0,c1]
 have hl:listed prog b.fn a o w₁= #[⟨.cell ⟨sb,0,none⟩,false,false⟩,⟨.cell ⟨sb,1,none⟩,false,false⟩]:=by unfold listed;rw[he,Go.Conc.seen_eq hq (by simp)]
 refine⟨_,_,_,stepG_value ho hw hk hr,?_,by rw[gV,hdst];exact h _ w₁ y (hK.put hd hL _)⟩;rw[hl];refine⟨fun _ _ _=>rfl,bE _,rfl,rfl,rfl,fun e he=>?_⟩;simp only[List.mem_toArray,di,eU,eX]at he;have:S sb∨(w₁.heap.size≤sb∧sb<w₁.heap.size)∨(Bs sb∧False=False):=hB.elim (fun x=>.inr (.inr ⟨x,rfl⟩)) .inl;rcases he with rfl|rfl
 ·exact .inl ⟨_,rfl,this.imp id (Or.imp id fun z=>⟨z.1,rfl⟩)⟩
 ·exact .inl ⟨_,rfl,this.imp id (Or.imp id fun z=>⟨z.1,rfl⟩)⟩
end
open Go.ConcR (KK wgBlock WgAt stA smA rd wr Payload Aside2 DC0 ofEvent_cell)
set_option linter.unusedSimpArgs false
set_option linter.unusedVariables false
theorem rowOf{w₁:World}(h:w.ownsRow N0 9 1 v k xs)(hk:∀g,v.ownBlock=some g→w₁.heap[g]? =w.heap[g]?):w₁.ownsRow N0 9 1 v k xs:=by obtain⟨h1,h2⟩:=h;refine⟨h1,h2.imp id ?_⟩;rintro⟨g,cap,cur,rfl,h3,h4,h5⟩;exact⟨g,cap,cur,rfl,h3,(hk g rfl).trans h4,h5⟩
theorem Pj(h:w.ownsRow N0 9 1 v k xs){g:Nat}(hg:v.ownBlock=some g):N0≤g∧g<w.heap.size:=by
 rcases h.2 with⟨rfl,_⟩|⟨g',cap,cur,rfl,h3,h4,_⟩
 ·simp[Value.ownBlock]at hg
 ·simp[Value.ownBlock]at hg;subst hg;exact⟨h3,(kP.1 h4).1⟩
structure LI (N0 sb:Nat) (p q:Int) (v:Value) (k:Nat) (xs:List Value) (S:Nat→Prop) (w:World):Prop where
 row:w.ownsRow N0 9 1 v k xs
 UU:∀g,v.ownBlock=some g→S g∧g≠sb
 box:w.heap[sb]? =some (.cells #[.int .i64 p,.int .i64 q] 23)
 bS:S sb
 lo:N0≤w.heap.size
 lob:N0≤sb
def TX (N0:Nat) (ao:Option Addr) (T:List ByteArray) (w:World):Prop:=∀j t,T[j]? =some t→∃b o,ao=some ⟨b,o,none⟩∧b<N0∧w.cell? ⟨b,o+j,none⟩=some (.string t)
section
variable {N0 sb k:Nat} {p q:Int} {v:Value} {xs:List Value} {Bs S S':Nat→Prop} {w w₁:World} {ao:Option Addr} {T:List ByteArray}
theorem LI.rely(h:LI N0 sb p q v k xs S w)(y:RY (fun b=>Bs b∨S b) w w₁):LI N0 sb p q v k xs S w₁:=
 ⟨rowOf h.row fun g hg=>y.keep g (.inr (h.UU g hg).1),h.UU,(y.keep sb (.inr h.bS)).trans h.box,h.bS,fA h.lo y.size,h.lob⟩
theorem LI.new(h:LI N0 sb p q v k xs S w)(hS:∀b,S b→S' b)(o:Obj):LI N0 sb p q v k xs S' (w.alloc o):=
 ⟨rowOf h.row fun g hg=>h_ _ _ _ (Pj h.row hg).2,fun g hg=>⟨hS g (h.UU g hg).1,(h.UU g hg).2⟩,(h_ _ _ _ (kP.1 h.box).1).trans h.box,hS _ h.bS,by simp;exact Nat.le_succ_of_le h.lo,h.lob⟩
theorem TX.keep(h:TX N0 ao T w)(hk:∀b,b<N0→w₁.heap[b]? =w.heap[b]?):TX N0 ao T w₁:=fun j t hj=>by obtain⟨b,o,h1,h2,h3⟩:=h j t hj;exact⟨b,o,h1,h2,(cell_of_block (hk b h2) (o+j)).trans h3⟩
theorem TX.at{b o j:Nat}{t:ByteArray}(h:TX N0 (some ⟨b,o,none⟩) T w)(hj:T[j]? =some t):w.cell? ⟨b,o+j,none⟩=some (.string t):=by obtain⟨b',o',h1,_,h3⟩:=h j t hj;simp only[sJ,Addr.mk.injEq]at h1;obtain⟨rfl,rfl,_⟩:=h1;exact h3
theorem TX.rely(h:TX N0 ao T w)(hB:∀b,b<N0→Bs b)(y:RY (fun b=>Bs b∨S b) w w₁):TX N0 ao T w₁:=h.keep fun b hb=>y.keep b (.inl (hB b hb))
theorem TX.new(h:TX N0 ao T w)(hN:N0≤w.heap.size)(o:Obj):TX N0 ao T (w.alloc o):=h.keep fun b hb=>h_ _ _ _ (by omega)
end
section
variable {main:Bool} {Bs S:Nat→Prop} {Stop:(Nat→Prop)→Goroutine→World→Prop} {w:World} {b:Frame} {a:Act} {kk:List Item} {cs:List Frame} {ops:Array Oper} {i:Nat} {rest:List Nat} {o:Oper} {n:Nat} {L:List (Nat × Value)} {d:Nat} {v:Value} {N0 sb k:Nat} {p q:Int} {xs:List Value} {ao:Option Addr} {T:List ByteArray}
theorem K8{tb:Nat}{t:ByteArray}{x y:Operand}(hB:∀b,Bs b↔b<N0)(hK:Kn n L a)(ho:ops[i]? =some o)(hw:Region.wanted o (yielded ops a.tmps)=true)(hk:b.kind≠ .early)(hop:o.op= .call {callee:=.builtin .append,args:=#[x,y],argTypes:=#[24,24]})(hx:a.eval x=v)(hy:a.eval y= .slice (some ⟨tb,0,none⟩) 1 1)(hF:LI N0 sb p q v k xs S w)(hX:TX N0 ao T w)(ht:w.heap[tb]? =some (.cells #[.string t] 9))(hT:S tb)(Lb:k<16)(hq:(prog.funcs[b.fn]?).any (·.norace)=false)(hdst:o.dst=some d)(hd:d<n)(hL:(L.all fun p=>p.1 != d)=true)(h:∀a' v' w' S',LI N0 sb p q v' (k+1) (xs++[.string t]) S' w'→TX N0 ao T w'→Kn n ((d,v')::L) a'→GE prog main Bs Stop S' (G (b.at a' (.inRegion ops rest::kk)) cs) w'):
 GE prog main Bs Stop S (G (b.at a (.inRegion ops (i::rest)::kk)) cs) w:=by
 refine GE.step rfl fun w₁ yy=>?_;have hF1:=hF.rely yy;have hX1:=hX.rely (fun b hb=>(hB b).2 hb) yy;have ht1:w₁.heap[tb]? =some (.cells #[.string t] 9):=(yy.keep tb (.inr hT)).trans ht;obtain⟨inf,h1,h2,h3,h4⟩:=info_parts OD;have hnews:∀(j:Nat) (u:Value),[Value.string t][j]? =some u→w₁.cell? ((⟨tb,0,none⟩:Addr).add j)=some u:=by
  intro j u hj;cases j with
  |zero=>simp at hj;subst hj;simp[Addr.add,World.cell?,ht1]
  |succ j=>simp at hj
 have hone:∀u∈[Value.string t],u.oneCell'=true:=by intro u hu;simp at hu;subst hu;rfl
 obtain⟨v',w',r1,r2,r3,r4,_⟩:=nO (P:=prog) w₁ N0 24 o.type 9 inf _ 1 16 underlying24 h1 h2 h3 h4 rfl v k xs hF1.row ⟨tb,0,none⟩ 1 1 [.string t] rfl hnews hone (by omega) (by simp[maxLen];omega) (by omega) hF1.lo;have ev:=events_append_where (P:=prog) w₁ N0 24 o.type 9 inf _ 1 16 underlying24 h1 h2 h3 h4 v k xs hF1.row ⟨tb,0,none⟩ 1 1 [.string t] rfl hnews hone (by simp[maxLen];omega) (by omega);have hr:(execOp a.eval o).run prog w₁= .ok (.value v') w':=by unfold execOp;simp only[hop,resolve,invoke,builtin,kN,qg,kM,List.map_toArray,List.map_cons,List.map_nil,hx,hy,r1]
 have he:=events_append_op (P:=prog) (o:=o) (a:=a) (w:=w₁) x y 24 hop hx hy #[];have Vk:∀g,v.ownBlock=some g→S g:=fun g hg=>(hF.UU g hg).1;have hkeep:∀b,b<w₁.heap.size→¬S b→w'.heap[b]? =w₁.heap[b]? :=fun b hb hn=>r3.block b hb fun e=>hn (Vk b e.symm);refine⟨_,w',_,stepG_value ho hw hk hr,⟨hkeep,r3.size,r3.tape,r3.os,r3.output,fun e hm=>?_⟩,?_⟩
 ·have hm':e∈(Builtin.append_ #[24,24] o.type #[v,.slice (some ⟨tb,0,none⟩) 1 1]).events prog w₁ #[]:=by unfold listed at hm;rw[he]at hm;exact Go.Conc.mem_seen hm
  rcases ev e hm' with⟨ad,h5,⟨h6,h7⟩|h6⟩|⟨m,rfl,h6⟩
  ·exact .inl ⟨ad,h5,.inl (by rw[h7];exact hT)⟩
  ·exact .inl ⟨ad,h5,.inl (Vk _ h6.symm)⟩
  ·exact .inr (.inr ⟨m,rfl,by rw[h6];rfl⟩)
 ·rw[hdst];have hkN:∀b,b<N0→w'.heap[b]? =w₁.heap[b]? :=fun b hb=>r3.block b (by have:=hF1.lo;omega) fun e=>by have:=(Pj hF1.row e.symm).1;omega
  refine h _ v' w' _ ⟨r2,fun g hg=>?_,?_,.inl hF.bS,fA hF1.lo r3.size,hF.lob⟩ (hX1.keep hkN) (hK.put hd hL v')
  ·have hlt:=(Pj r2 hg).2;rcases r4 with e|⟨k',e,hk'⟩
   ·exact⟨.inl (Vk g (by rw[←e];exact hg)),(hF.UU g (by rw[←e];exact hg)).2⟩
   ·rw[hg]at e;cases e;exact⟨.inr ⟨hk',hlt⟩,fun e=>by have:=(kP.1 hF1.box).1;omega⟩
  ·rw[r3.block sb (kP.1 hF1.box).1 fun e=>(hF.UU sb e.symm).2 rfl];exact hF1.box
end
end Go.Proofs.YtheibfffilomcabGreatDoor
