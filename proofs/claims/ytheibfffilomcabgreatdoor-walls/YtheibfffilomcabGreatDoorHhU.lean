import Derived.Test.YtheibfffilomcabGreatDoorEvnU
import Derived.OpenShut
import Derived.ProofKit
import Derived.Lib.LaidTab
import Derived.Test.YtheibfffilomcabGreatDoorThU
import Derived.Test.YtheibfffilomcabGreatDoorXbU
import Derived.Test.YtheibfffilomcabGreatDoorRows
import Derived.Leaving
import Derived.JoinedCond
import Derived.SevenTiedAt
set_option linter.all false
namespace Go.Proofs.YtheibfffilomcabGreatDoor
open Go.RowKit Go.Proofs.Tryz
variable {W:World} {x0 x1 x2 d:DataW Unit} {rest:List (String × DataW Unit)}
theorem g1:prog.globalNamed "slate/chars.leads" =some 0:=by kernel_rfl
theorem g1T:(prog.globals[0]?).map (·.type)=some 190:=by kernel_rfl
theorem cells3:prog.cellsOf 3=1:=by kernel_rfl
theorem cells5:prog.cellsOf 5=1:=by kernel_rfl
theorem JR:prog.cellsOf 189=6:=by kernel_rfl
theorem QN:prog.cellsOf 190=48:=by kernel_rfl
theorem gU(m:Nat):∀(rows:List (List Value)) (cs:List Value),cs.length=rows.length*m→(∀i r,rows[i]? =some r→(cs.drop (i*m)).take m=r)→cs=rows.flatten
 | [],cs,hl,_=>by
   have:cs.length=0:=by simpa using hl
   simp[Jk this]
 |r::rs,cs,hl,h=>by
  have h0:=h 0 r rfl;simp only[Nat.zero_mul,List.drop_zero]at h0;have hl':cs.length=rs.length*m+m:=by rw[hl,fB,Nat.add_mul,Nat.one_mul]
  have ih:=gU m rs (cs.drop m) (by rw[wR];omega) (fun i r' hr=>by
   have:=h (i+1) r' (by simpa using hr);rw[List.drop_drop,show m+i*m=(i+1)*m by rw[Nat.add_mul,Nat.one_mul,Nat.add_comm]]
   exact this)
  rw[List.flatten_cons, ←ih, ←h0,List.take_append_drop]
section
variable {H:Type} {enc:TypeId × Value→H} {w:World} {base:Nat} {sp:Nat→Bool} {held:Bool} {fuel:Nat}
theorem gG{t:TypeId}{k:IntKind}{n:Int}{xs:List (DataW H × List MemPlace)}{i:Nat}{cs:List Value}(ht:prog.underlying t=some (.int k))(hx:(xs.map (·.1))[i]? =some (.lit (.int k n)))(h:DataW.trod enc prog w base sp held fuel t cs=xs[i]?):cs=[.int k n]:=by
 rw[sH]at hx;cases hxi:xs[i]? with
 |none=>rw[hxi]at hx;simp at hx
 |some x=>rw[hxi]at hx h;obtain⟨z,hc,rfl,_⟩:=DataW.trod_int ht h;simp at hx;rw[hc,hx]
theorem Hw{cs:List Value}{p:List MemPlace}{a b c d e f:Int}(h:DataW.trod enc prog w base sp held fuel 189 cs=some (.agg [.lit (.int .u8 a),.lit (.int .u8 b),.lit (.int .u8 c),.lit (.int .i64 d),.lit (.int .u8 e),.lit (.int .u8 f)],p)):
 cs=[.int .u8 a,.int .u8 b,.int .u8 c,.int .i64 d,.int .u8 e,.int .u8 f]:=by
 obtain⟨xs,n,rfl,hx,hl,hxl,hf⟩:=DataW.trod_struct underlying189 h;have hx1:xs.map (·.1)=[.lit (.int .u8 a),.lit (.int .u8 b),.lit (.int .u8 c),.lit (.int .i64 d),.lit (.int .u8 e),.lit (.int .u8 f)]:=by have:=congrArg Prod.fst hx;simpa using this.symm
 rw[JR]at hl;have f0:(cs.drop 0).take (prog.cellsOf 5)=[.int .u8 a]:=gG underlying5 (by rw[hx1];rfl) (hf 0 _ rfl);rw[cells5]at f0;have f1:(cs.drop 1).take (prog.cellsOf 5)=[.int .u8 b]:=gG underlying5 (by rw[hx1];rfl) (hf 1 _ rfl);rw[cells5]at f1;have f2:(cs.drop 2).take (prog.cellsOf 5)=[.int .u8 c]:=gG underlying5 (by rw[hx1];rfl) (hf 2 _ rfl);rw[cells5]at f2;have f3:(cs.drop 3).take (prog.cellsOf 3)=[.int .i64 d]:=gG underlying3 (by rw[hx1];rfl) (hf 3 _ rfl);rw[cells3]at f3;have f4:(cs.drop 4).take (prog.cellsOf 5)=[.int .u8 e]:=gG underlying5 (by rw[hx1];rfl) (hf 4 _ rfl);rw[cells5]at f4;have f5:(cs.drop 5).take (prog.cellsOf 5)=[.int .u8 f]:=gG underlying5 (by rw[hx1];rfl) (hf 5 _ rfl);rw[cells5]at f5
 have:=gU 1 [[.int .u8 a],[.int .u8 b],[.int .u8 c],[.int .i64 d],[.int .u8 e],[.int .u8 f]] cs (by simpa using hl) (fun i r hr=>by
  match i,hr with
  | 0,hr=>simp at hr;subst hr;exact f0
  | 1,hr=>simp at hr;subst hr;exact f1
  | 2,hr=>simp at hr;subst hr;exact f2
  | 3,hr=>simp at hr;subst hr;exact f3
  | 4,hr=>simp at hr;subst hr;exact f4
  | 5,hr=>simp at hr;subst hr;exact f5
  |n+6,hr=>simp at hr)
 simpa using this
theorem jG{xs:List (DataW H × List MemPlace)}{i:Nat}{cs:List Value}{a b c d e f:Int}(hx:(xs.map (·.1))[i]? =some (.agg [.lit (.int .u8 a),.lit (.int .u8 b),.lit (.int .u8 c),.lit (.int .i64 d),.lit (.int .u8 e),.lit (.int .u8 f)]))(h:DataW.trod enc prog w base sp held fuel 189 cs=xs[i]?):cs=[.int .u8 a,.int .u8 b,.int .u8 c,.int .i64 d,.int .u8 e,.int .u8 f]:=by
 rw[sH]at hx;cases hxi:xs[i]? with
 |none=>rw[hxi]at hx;simp at hx
 |some x=>rw[hxi]at hx h;simp only[Option.map_some,sJ]at hx;exact Hw (p:=x.2) (by rw[h, ←hx])
theorem EI{cs:List Value}{p:List MemPlace}(h:DataW.trod enc prog w base sp held fuel 190 cs=some (Rows.laid_slate_chars_leads,p)):cs=eZ.toList:=by
 obtain⟨xs,n,rfl,hx,hl,hxl,hf⟩:=DataW.trod_array underlying190 h;have hx0:DataW.agg (xs.map (·.1))=Rows.laid_slate_chars_leads:=(congrArg Prod.fst hx).symm;unfold Rows.laid_slate_chars_leads at hx0;have hx1:=DataW.agg.inj hx0;rw[QN]at hl;simp only[JR]at hf;have f0:=jG (by rw[hx1];rfl) (hf 0 (by omega));have f1:=jG (by rw[hx1];rfl) (hf 1 (by omega));have f2:=jG (by rw[hx1];rfl) (hf 2 (by omega));have f3:=jG (by rw[hx1];rfl) (hf 3 (by omega));have f4:=jG (by rw[hx1];rfl) (hf 4 (by omega));have f5:=jG (by rw[hx1];rfl) (hf 5 (by omega));have f6:=jG (by rw[hx1];rfl) (hf 6 (by omega));have f7:=jG (by rw[hx1];rfl) (hf 7 (by omega))
 have:=gU 6 [[.int .u8 194,.int .u8 223,.int .u8 31,.int .i64 1,.int .u8 128,.int .u8 191],[.int .u8 224,.int .u8 224,.int .u8 15,.int .i64 2,.int .u8 160,.int .u8 191],[.int .u8 225,.int .u8 236,.int .u8 15,.int .i64 2,.int .u8 128,.int .u8 191],[.int .u8 237,.int .u8 237,.int .u8 15,.int .i64 2,.int .u8 128,.int .u8 159],[.int .u8 238,.int .u8 239,.int .u8 15,.int .i64 2,.int .u8 128,.int .u8 191],[.int .u8 240,.int .u8 240,.int .u8 7,.int .i64 3,.int .u8 144,.int .u8 191],[.int .u8 241,.int .u8 243,.int .u8 7,.int .i64 3,.int .u8 128,.int .u8 191],[.int .u8 244,.int .u8 244,.int .u8 7,.int .i64 3,.int .u8 128,.int .u8 143]] cs (by simpa using hl) (fun i r hr=>by
  match i,hr with
  | 0,hr=>exact f0.trans (dI hr)
  | 1,hr=>exact f1.trans (dI hr)
  | 2,hr=>exact f2.trans (dI hr)
  | 3,hr=>exact f3.trans (dI hr)
  | 4,hr=>exact f4.trans (dI hr)
  | 5,hr=>exact f5.trans (dI hr)
  | 6,hr=>exact f6.trans (dI hr)
  | 7,hr=>exact f7.trans (dI hr)
  |n+8,hr=>simp at hr)
 rw[this];rfl
end
theorem g0:prog.globalNamed "slate/chars.spans" =some 1:=by kernel_rfl
theorem g0T:(prog.globals[1]?).map (·.type)=some 217:=by kernel_rfl
theorem JQ:prog.cellsOf 216=3:=by kernel_rfl
theorem QM:prog.cellsOf 217=42:=by kernel_rfl
section
variable {H:Type} {enc:TypeId × Value→H} {w:World} {base:Nat} {sp:Nat→Bool} {held:Bool} {fuel:Nat}
theorem IJ{cs:List Value}{p:List MemPlace}{a b c:Int}(h:DataW.trod enc prog w base sp held fuel 216 cs=some (.agg [.lit (.int .i64 a),.lit (.int .i64 b),.lit (.int .i64 c)],p)):
 cs=[.int .i64 a,.int .i64 b,.int .i64 c]:=by
 obtain⟨xs,n,rfl,hx,hl,hxl,hf⟩:=DataW.trod_struct underlying216 h;have hx1:xs.map (·.1)=[.lit (.int .i64 a),.lit (.int .i64 b),.lit (.int .i64 c)]:=by have:=congrArg Prod.fst hx;simpa using this.symm
 rw[JQ]at hl;have f0:(cs.drop 0).take (prog.cellsOf 3)=[.int .i64 a]:=gG underlying3 (by rw[hx1];rfl) (hf 0 _ rfl);rw[cells3]at f0;have f1:(cs.drop 1).take (prog.cellsOf 3)=[.int .i64 b]:=gG underlying3 (by rw[hx1];rfl) (hf 1 _ rfl);rw[cells3]at f1;have f2:(cs.drop 2).take (prog.cellsOf 3)=[.int .i64 c]:=gG underlying3 (by rw[hx1];rfl) (hf 2 _ rfl);rw[cells3]at f2
 have:=gU 1 [[.int .i64 a],[.int .i64 b],[.int .i64 c]] cs (by simpa using hl) (fun i r hr=>by
  match i,hr with
  | 0,hr=>simp at hr;subst hr;exact f0
  | 1,hr=>simp at hr;subst hr;exact f1
  | 2,hr=>simp at hr;subst hr;exact f2
  |n+3,hr=>simp at hr)
 simpa using this
theorem dV{xs:List (DataW H × List MemPlace)}{i:Nat}{cs:List Value}{a b c:Int}(hx:(xs.map (·.1))[i]? =some (.agg [.lit (.int .i64 a),.lit (.int .i64 b),.lit (.int .i64 c)]))(h:DataW.trod enc prog w base sp held fuel 216 cs=xs[i]?):cs=[.int .i64 a,.int .i64 b,.int .i64 c]:=by
 rw[sH]at hx;cases hxi:xs[i]? with
 |none=>rw[hxi]at hx;simp at hx
 |some x=>rw[hxi]at hx h;simp only[Option.map_some,sJ]at hx;exact IJ (p:=x.2) (by rw[h, ←hx])
theorem FL{cs:List Value}{p:List MemPlace}(h:DataW.trod enc prog w base sp held fuel 217 cs=some (Rows.laid_slate_chars_spans,p)):cs=dx.toList:=by
 obtain⟨xs,n,rfl,hx,hl,hxl,hf⟩:=DataW.trod_array underlying217 h;have hx0:DataW.agg (xs.map (·.1))=Rows.laid_slate_chars_spans:=(congrArg Prod.fst hx).symm;unfold Rows.laid_slate_chars_spans at hx0;have hx1:=DataW.agg.inj hx0;rw[QM]at hl;simp only[JQ]at hf;have f0:=dV (by rw[hx1];rfl) (hf 0 (by omega));have f1:=dV (by rw[hx1];rfl) (hf 1 (by omega));have f2:=dV (by rw[hx1];rfl) (hf 2 (by omega));have f3:=dV (by rw[hx1];rfl) (hf 3 (by omega));have f4:=dV (by rw[hx1];rfl) (hf 4 (by omega));have f5:=dV (by rw[hx1];rfl) (hf 5 (by omega));have f6:=dV (by rw[hx1];rfl) (hf 6 (by omega));have f7:=dV (by rw[hx1];rfl) (hf 7 (by omega));have f8:=dV (by rw[hx1];rfl) (hf 8 (by omega));have f9:=dV (by rw[hx1];rfl) (hf 9 (by omega));have f10:=dV (by rw[hx1];rfl) (hf 10 (by omega));have f11:=dV (by rw[hx1];rfl) (hf 11 (by omega));have f12:=dV (by rw[hx1];rfl) (hf 12 (by omega));have f13:=dV (by rw[hx1];rfl) (hf 13 (by omega))
 have:=gU 3 [[.int .i64 0,.int .i64 31,.int .i64 0],[.int .i64 127,.int .i64 159,.int .i64 0],[.int .i64 768,.int .i64 879,.int .i64 0],[.int .i64 4352,.int .i64 4447,.int .i64 2],[.int .i64 8203,.int .i64 8207,.int .i64 0],[.int .i64 11904,.int .i64 42191,.int .i64 2],[.int .i64 44032,.int .i64 55203,.int .i64 2],[.int .i64 63744,.int .i64 64255,.int .i64 2],[.int .i64 65024,.int .i64 65039,.int .i64 0],[.int .i64 65072,.int .i64 65135,.int .i64 2],[.int .i64 65280,.int .i64 65376,.int .i64 2],[.int .i64 65504,.int .i64 65510,.int .i64 2],[.int .i64 127744,.int .i64 128591,.int .i64 2],[.int .i64 131072,.int .i64 262141,.int .i64 2]] cs (by simpa using hl) (fun i r hr=>by
  match i,hr with
  | 0,hr=>exact f0.trans (dI hr)
  | 1,hr=>exact f1.trans (dI hr)
  | 2,hr=>exact f2.trans (dI hr)
  | 3,hr=>exact f3.trans (dI hr)
  | 4,hr=>exact f4.trans (dI hr)
  | 5,hr=>exact f5.trans (dI hr)
  | 6,hr=>exact f6.trans (dI hr)
  | 7,hr=>exact f7.trans (dI hr)
  | 8,hr=>exact f8.trans (dI hr)
  | 9,hr=>exact f9.trans (dI hr)
  | 10,hr=>exact f10.trans (dI hr)
  | 11,hr=>exact f11.trans (dI hr)
  | 12,hr=>exact f12.trans (dI hr)
  | 13,hr=>exact f13.trans (dI hr)
  |n+14,hr=>simp at hr)
 rw[this];rfl
end
theorem g2:prog.globalNamed "slate/chars.strokes" =some 2:=by kernel_rfl
theorem g2T:(prog.globals[2]?).map (·.type)=some 239:=by kernel_rfl
theorem xh:prog.cellsOf 238=2:=by kernel_rfl
theorem Ck:prog.cellsOf 239=22:=by kernel_rfl
section
variable {H:Type} {enc:TypeId × Value→H} {w:World} {base:Nat} {sp:Nat→Bool} {held:Bool} {fuel:Nat}
theorem Dh{cs:List Value}{p:List MemPlace}{a b:Int}(h:DataW.trod enc prog w base sp held fuel 238 cs=some (.agg [.lit (.int .i64 a),.lit (.int .i64 b)],p)):
 cs=[.int .i64 a,.int .i64 b]:=by
 obtain⟨xs,n,rfl,hx,hl,hxl,hf⟩:=DataW.trod_struct underlying238 h;have hx1:xs.map (·.1)=[.lit (.int .i64 a),.lit (.int .i64 b)]:=by have:=congrArg Prod.fst hx;simpa using this.symm
 rw[xh]at hl;have f0:(cs.drop 0).take (prog.cellsOf 3)=[.int .i64 a]:=gG underlying3 (by rw[hx1];rfl) (hf 0 _ rfl);rw[cells3]at f0;have f1:(cs.drop 1).take (prog.cellsOf 3)=[.int .i64 b]:=gG underlying3 (by rw[hx1];rfl) (hf 1 _ rfl);rw[cells3]at f1
 have:=gU 1 [[.int .i64 a],[.int .i64 b]] cs (by simpa using hl) (fun i r hr=>by
  match i,hr with
  | 0,hr=>simp at hr;subst hr;exact f0
  | 1,hr=>simp at hr;subst hr;exact f1
  |n+2,hr=>simp at hr)
 simpa using this
theorem dW{xs:List (DataW H × List MemPlace)}{i:Nat}{cs:List Value}{a b:Int}(hx:(xs.map (·.1))[i]? =some (.agg [.lit (.int .i64 a),.lit (.int .i64 b)]))(h:DataW.trod enc prog w base sp held fuel 238 cs=xs[i]?):cs=[.int .i64 a,.int .i64 b]:=by
 rw[sH]at hx;cases hxi:xs[i]? with
 |none=>rw[hxi]at hx;simp at hx
 |some x=>rw[hxi]at hx h;simp only[Option.map_some,sJ]at hx;exact Dh (p:=x.2) (by rw[h, ←hx])
theorem Ah{cs:List Value}{p:List MemPlace}(h:DataW.trod enc prog w base sp held fuel 239 cs=some (Rows.laid_slate_chars_strokes,p)):cs=bU.toList:=by
 obtain⟨xs,n,rfl,hx,hl,hxl,hf⟩:=DataW.trod_array underlying239 h;have hx0:DataW.agg (xs.map (·.1))=Rows.laid_slate_chars_strokes:=(congrArg Prod.fst hx).symm;unfold Rows.laid_slate_chars_strokes at hx0;have hx1:=DataW.agg.inj hx0;rw[Ck]at hl;simp only[xh]at hf;have f0:=dW (by rw[hx1];rfl) (hf 0 (by omega));have f1:=dW (by rw[hx1];rfl) (hf 1 (by omega));have f2:=dW (by rw[hx1];rfl) (hf 2 (by omega));have f3:=dW (by rw[hx1];rfl) (hf 3 (by omega));have f4:=dW (by rw[hx1];rfl) (hf 4 (by omega));have f5:=dW (by rw[hx1];rfl) (hf 5 (by omega));have f6:=dW (by rw[hx1];rfl) (hf 6 (by omega));have f7:=dW (by rw[hx1];rfl) (hf 7 (by omega));have f8:=dW (by rw[hx1];rfl) (hf 8 (by omega));have f9:=dW (by rw[hx1];rfl) (hf 9 (by omega));have f10:=dW (by rw[hx1];rfl) (hf 10 (by omega))
 have:=gU 2 [[.int .i64 106,.int .i64 9496],[.int .i64 107,.int .i64 9488],[.int .i64 108,.int .i64 9484],[.int .i64 109,.int .i64 9492],[.int .i64 110,.int .i64 9532],[.int .i64 113,.int .i64 9472],[.int .i64 116,.int .i64 9500],[.int .i64 117,.int .i64 9508],[.int .i64 118,.int .i64 9524],[.int .i64 119,.int .i64 9516],[.int .i64 120,.int .i64 9474]] cs (by simpa using hl) (fun i r hr=>by
  match i,hr with
  | 0,hr=>exact f0.trans (dI hr)
  | 1,hr=>exact f1.trans (dI hr)
  | 2,hr=>exact f2.trans (dI hr)
  | 3,hr=>exact f3.trans (dI hr)
  | 4,hr=>exact f4.trans (dI hr)
  | 5,hr=>exact f5.trans (dI hr)
  | 6,hr=>exact f6.trans (dI hr)
  | 7,hr=>exact f7.trans (dI hr)
  | 8,hr=>exact f8.trans (dI hr)
  | 9,hr=>exact f9.trans (dI hr)
  | 10,hr=>exact f10.trans (dI hr)
  |n+11,hr=>simp at hr)
 rw[this];rfl
end
theorem IV(h:laidMet prog (("math/bits.deBruijn32tab",x0)::("math/bits.deBruijn64tab",x1)::("internal/strconv.uint64pow10",x2)::("slate/chars.strokes",Rows.laid_slate_chars_strokes)::rest) W):iX W:=by
 obtain⟨ps,⟨_,_,_,_,_,qa2,_,_,_,_,⟨_,_,_,_,_,qa1,_,_,_,_,⟨_,_,_,_,_,qa0,_,_,_,_,⟨g',t',cs,fuel,p,q,hg',ht',hvar,hd,_,_⟩,_⟩,_⟩,_⟩,_⟩:=h;obtain rfl:=dI (g2.symm.trans hg');obtain rfl:=dI (g2T.symm.trans ht');have hc:=Ah hd;unfold World.var? at hvar;rw[g2]at hvar;simp only[DR]at hvar;split at hvar
 ·rename_i cs' t fr hb;simp only[sJ]at hvar;subst hvar;have:cs'=bU:=Array.toList_inj.1 hc;exact⟨t,fr,by rw[hb,this]⟩
 ·cases hvar
theorem Lh(h:laidMet prog (("math/bits.deBruijn32tab",x0)::("math/bits.deBruijn64tab",x1)::("internal/strconv.uint64pow10",x2)::("slate/chars.strokes",d)::("slate/chars.leads",Rows.laid_slate_chars_leads)::rest) W):jK W:=by
 obtain⟨ps,⟨_,_,_,_,_,qb3,_,_,_,_,⟨_,_,_,_,_,qb2,_,_,_,_,⟨_,_,_,_,_,qb1,_,_,_,_,⟨_,_,_,_,_,qb0,_,_,_,_,⟨g',t',cs,fuel,p,q,hg',ht',hvar,hd,_,_⟩,_⟩,_⟩,_⟩,_⟩,_⟩:=h;obtain rfl:=dI (g1.symm.trans hg');obtain rfl:=dI (g1T.symm.trans ht');have hc:=EI hd;unfold World.var? at hvar;rw[g1]at hvar;simp only[DR]at hvar;split at hvar
 ·rename_i cs' t fr hb;simp only[sJ]at hvar;subst hvar;have:cs'=eZ:=Array.toList_inj.1 hc;exact⟨t,fr,by rw[hb,this]⟩
 ·cases hvar
theorem Mi{d':DataW Unit}(h:laidMet prog (("math/bits.deBruijn32tab",x0)::("math/bits.deBruijn64tab",x1)::("internal/strconv.uint64pow10",x2)::("slate/chars.strokes",d)::("slate/chars.leads",d')::("slate/chars.spans",Rows.laid_slate_chars_spans)::rest) W):yB W:=by
 obtain⟨ps,⟨_,_,_,_,_,qc4,_,_,_,_,⟨_,_,_,_,_,qc3,_,_,_,_,⟨_,_,_,_,_,qc2,_,_,_,_,⟨_,_,_,_,_,qc1,_,_,_,_,⟨_,_,_,_,_,qc0,_,_,_,_,⟨g',t',cs,fuel,p,q,hg',ht',hvar,hd,_,_⟩,_⟩,_⟩,_⟩,_⟩,_⟩,_⟩:=h;obtain rfl:=dI (g0.symm.trans hg');obtain rfl:=dI (g0T.symm.trans ht');have hc:=FL hd;unfold World.var? at hvar;rw[g0]at hvar;simp only[DR]at hvar;split at hvar
 ·rename_i cs' t fr hb;simp only[sJ]at hvar;subst hvar;have:cs'=dx:=Array.toList_inj.1 hc;exact⟨t,fr,by rw[hb,this]⟩
 ·cases hvar
theorem RN(h:laidMet prog [("math/bits.deBruijn32tab",x0),("math/bits.deBruijn64tab",x1),("internal/strconv.uint64pow10",x2),("slate/chars.strokes",Rows.laid_slate_chars_strokes),("slate/chars.leads",Rows.laid_slate_chars_leads),("slate/chars.spans",Rows.laid_slate_chars_spans)] W):iE W:=⟨Mi h,Lh h,IV h⟩
def acG:DataW Unit→Value
 | .lit (.int k n)=>.int k n
 |_=>.int .i64 0
def NS:DataW Unit→Array Value
 | .agg l=>(l.map acG).toArray
 |_=>#[]
def Cn:Array Value:=NS Rows.laid_math_bits_deBruijn32tab
def Co:Array Value:=NS Rows.laid_math_bits_deBruijn64tab
def zo:Array Value:=NS Rows.laid_internal_strconv_uint64pow10
theorem xP(Lk:Looks){p:Pinned}{s:OpenSpec}{c:OpenClaim}(kinds:List LaidKind)(tests:Bool)(har:Bool × String)(lk:Bool)(hc:c.holds p s)(hw:c.wfByText s=true)(htie:c.laidByTextAt Lk p kinds tests)(hst:c.start= .entering)(hnb:c.noBlocks=false∧c.again=false)(hm:p.checked.prog.mainIs=some (har.1,har.2.toList))(hn:(!har.1&&har.2.isEmpty&& !lk)=false)(hl:∀f fn,p.checked.prog.funcNamed c.func=some f→p.checked.prog.funcs[f]? =some fn→lk=p.checked.prog.looks []∧∀(j:Nat) t,fn.params[j]? =some t→p.checked.prog.wantsStandIn t=false)(hg:true=c.goesBy p.checked.prog):
 Claim7.holds p (.plain s) {stood:={row:=c,standIns:=[],harness:=har,looks:=lk},kinds:=[],alts:=[],goes:=true,laidByText:=true,laidKinds:=kinds,laidTests:=tests,laidLooks:=Lk}:=
 ⟨Claim7.tied_new_at Lk kinds tests (Claim7.new_of_sixth hc har lk hst hnb hm (by simpa[Claim7.isSixth]using hn) hl) hw,fun D hD=>(by cases hD),htie,(fun h=>(by cases h)),hg⟩
end Go.Proofs.YtheibfffilomcabGreatDoor
