import Derived.Test.YtheibfffilomcabGreatDoorR39
import Derived.Test.YtheibfffilomcabGreatDoorProg
set_option linter.all false
namespace Go.Proofs.YtheibfffilomcabGreatDoor
open Go.Ren Go.Proofs.Tryz
set_option linter.unusedSimpArgs false
set_option linter.unusedVariables false
def fsL:List FuncId:=[6,7,8,9,11,15,16,18,19,20,38,39,40,41,47,48,49,50,51,52,53,54,70,71,72,73,74,75,76,77,78,79,80,82,83,84,85,86,87,88,89,90,91,92,93,94,95,96,97,116,117,118,119,120,121,122,123,124,125,126,127,128,129,130,131,132,133,134,135,136,137,138,139,140,141,142,143,144,145,146,147,160,161,162,163,164,165,166,167,168,169,170,171,172,173,174,175,176,177,178,179,180,181,182,183,184,185,186,187,188,189,190,191,192,193,194,195,196,197,227,228,229,230,231,232,233,241,242,243,244,245,246,247,248,249]
def V7 (f:FuncId):Bool:=fsL.any (Nat.beq f)
def gsW (f:FuncId) (t:Tmp):Bool:=(Nat.beq f 231&&Nat.beq t 10)||(Nat.beq f 248&&Nat.beq t 11)||(Nat.beq f 249&&Nat.beq t 11)
noncomputable def ZH (f:FuncId):Bool:=match funcs.toList[f]? with|some fn=>Ve V7 (gsW f) fn|none=>false
theorem VY:zeros prog.types.toList=true:=by kernel_rfl
theorem goW:V7 fM=false:=by kernel_rfl
theorem deW:V7 lS=false:=by kernel_rfl
theorem SI:prog.globals.size=7:=by kernel_rfl
theorem abh:fsL.all ZH=true:=by kernel_rfl
theorem abW:(fsL.all fun f=>Nat.beq f 196||Nat.beq f 228||match funcs.toList[f]? with|some fn=>fn.body.isSome|none=>false)=true:=by kernel_rfl
theorem ZC:Extern.findNext f196=none:=by kernel_rfl
theorem YO:Extern.find f196=some Extern.AbiNoEscape.same:=by kernel_rfl
theorem ZE:Extern.findNext f228=none:=by kernel_rfl
theorem YP:Extern.find f228=some Extern.BytealgIndexByte.indexByte:=by kernel_rfl
theorem Zy:(f196.name== "runtime.NumGoroutine")=false:=by kernel_rfl
theorem Zz:(f228.name== "runtime.NumGoroutine")=false:=by kernel_rfl
theorem Lg:Kit prog V7 gsW 7 (uq 7):=by
 refine U6 (l:=fsL) SI (by omega) (fun f h=>?_) VY goW deW fun f hf=>?_
 ·unfold V7 at h;rw[List.any_eq_true]at h;obtain⟨x,hx,e⟩:=h;rw[Nat.eq_of_beq_eq_true e];exact hx
 ·have h1:=List.all_eq_true.1 abh f hf;have h2:=List.all_eq_true.1 abW f hf;unfold ZH at h1;cases hfn:funcs.toList[f]? with
  |none=>rw[hfn]at h1;cases h1
  |some fn=>
   rw[hfn]at h1 h2;have hfn':prog.funcs[f]? =some fn:=by rw[←hfn];simp[prog]
   refine⟨fn,hfn',h1,fun hb ρ args=>?_⟩;simp only[hb,Option.isSome_none,Bool.or_false,Bool.or_eq_true]at h2;rcases h2 with e|e
   ·have e:=Nat.eq_of_beq_eq_true e;subst e;rw[func196]at hfn';cases hfn';exact Pz func196 hb Zy ZC YO args (RJ args)
   ·have e:=Nat.eq_of_beq_eq_true e;subst e;rw[func228]at hfn';cases hfn';exact Pz func228 hb Zz ZE YP args (Dj args)
theorem SG:∀fn,prog.funcs[9]? =some fn→fn.results.all oM=true:=by intro fn h;rw[func9]at h;cases h;rw[←Array.all_toList];kernel_rfl
theorem Vz:∀fn,prog.funcs[15]? =some fn→fn.results.all oM=true:=by intro fn h;rw[func15]at h;cases h;rw[←Array.all_toList];kernel_rfl
theorem VA:∀fn,prog.funcs[16]? =some fn→fn.results.all oM=true:=by intro fn h;rw[func16]at h;cases h;rw[←Array.all_toList];kernel_rfl
theorem ZO:∀fn,prog.funcs[6]? =some fn→fn.results.all oM=true:=by intro fn h;rw[func6]at h;cases h;rw[←Array.all_toList];kernel_rfl
theorem ZP:∀fn,prog.funcs[7]? =some fn→fn.results.all oM=true:=by intro fn h;rw[func7]at h;cases h;rw[←Array.all_toList];kernel_rfl
theorem ZQ:∀fn,prog.funcs[8]? =some fn→fn.results.all oM=true:=by intro fn h;rw[func8]at h;cases h;rw[←Array.all_toList];kernel_rfl
end Go.Proofs.YtheibfffilomcabGreatDoor
