import Derived.Test.YtheibfffilomcabGreatDoorK1
import Derived.Test.YtheibfffilomcabGreatDoorS13U
import Derived.Test.YtheibfffilomcabGreatDoorS16U
set_option linter.all false
namespace Go.Proofs.YtheibfffilomcabGreatDoor
open Go.Ren Go.Conc Go.ConcN Go.RowKit Go.Conc.Lib Go.ConcR.Gen Go.ConcN.Gen Go.Proofs.Tryz
open Go.ConcR (KK wgBlock WgAt stA smA rd wr Payload Aside2 DC0 ofEvent_cell)
set_option linter.unusedSimpArgs false
set_option linter.unusedVariables false
abbrev link:Go.Conc.Lib.WgLink:={add:=12,done:=14,wait:=17,relMerge:=25,disable:=26,enable:=27,inBubble:=28,associate:=29,fatal:=30,uOr:=31,uAdd:=32,raceRead:=33,uLoad:=34,uStore:=35,disassociate:=36,semrelease:=37,acquire:=42,isAssociated:=43,uCas:=44,raceWrite:=45,semacquire:=46,orU64:=66,addU64:=67,loadU64:=68,storeU64:=69,casU64:=81,tWgP:=77,tUP:=79,tAssoc:=80,tWg:=47,tAU:=44,tU64:=42,tUint:=83,tU32:=45,tPU32:=84,tPAU:=135,tPU64:=137,tNoCopy:=39,tANoCopy:=40,tAlign64:=41}
theorem Ko:Go.Conc.Lib.WgLib prog link:=
 ⟨func12,func14,func17,func25,func26,func27,func28,func29,func30,func31,func32,func33,func34,func35,func36,func37,func42,func43,func44,func45,func46,func66,func67,func68,func69,func81,underlying77,runUnderlying77,sizeOf77,isAgg77,zeroValue77,underlying79,runUnderlying79,sizeOf79,isAgg79,zeroValue79,underlying80,runUnderlying80,sizeOf80,isAgg80,zeroValue80,underlying47,runUnderlying47,sizeOf47,isAgg47,zeroValue47,underlying44,runUnderlying44,sizeOf44,isAgg44,zeroValue44,underlying42,runUnderlying42,sizeOf42,isAgg42,zeroValue42,underlying83,runUnderlying83,sizeOf83,isAgg83,zeroValue83,underlying45,runUnderlying45,sizeOf45,isAgg45,zeroValue45,underlying84,runUnderlying84,sizeOf84,isAgg84,zeroValue84,underlying135,runUnderlying135,sizeOf135,isAgg135,zeroValue135,underlying137,runUnderlying137,sizeOf137,isAgg137,zeroValue137,underlying0,runUnderlying0,sizeOf0,isAgg0,zeroValue0,underlying3,runUnderlying3,sizeOf3,isAgg3,zeroValue3,underlying4,runUnderlying4,sizeOf4,isAgg4,zeroValue4,underlying9,runUnderlying9,sizeOf9,isAgg9,zeroValue9,underlying20,runUnderlying20,sizeOf20,isAgg20,zeroValue20,underlying21,runUnderlying21,sizeOf21,isAgg21,zeroValue21,by kernel_rfl,by kernel_rfl⟩
instance:Payload:=⟨9⟩
end Go.Proofs.YtheibfffilomcabGreatDoor
