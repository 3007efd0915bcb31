import Derived.Test.YtheibfffilomcaaGreatDoorTmaU
import Derived.Test.YtheibfffilomcaaGreatDoorGjU
import Derived.OpenShut
import Derived.ProofKit
import Derived.Lib.LaidTab
import Derived.Test.YtheibfffilomcaaGreatDoorThU
import Derived.Test.YtheibfffilomcaaGreatDoorTyU
set_option linter.all false
set_option maxRecDepth 100000
set_option maxHeartbeats 2000000
namespace Go.Proofs.YtheibfffilomcaaGreatDoor
open Go.RowKit Go.Proofs.Tryz
variable {W w:World} {x0 x1 x2 d:DataW Unit} {tb pb fb:Nat} {rest:List (String × DataW Unit)}
structure VT (w:World) (pb fb tb:Nat):Prop where
 blk:w.heap[pb]? =some (.cells #[.pointer (some ⟨fb,0,none⟩),.pointer (some ⟨tb,0,none⟩)] 31 (0,0))
theorem VT.c0(h:VT w pb fb tb):w.cell? ⟨pb,0,none⟩=some (.pointer (some ⟨fb,0,none⟩)):=(bG _ _ _ _ _ _ h.blk).trans rfl
theorem VT.c1(h:VT w pb fb tb):w.cell? ⟨pb,1,none⟩=some (.pointer (some ⟨tb,0,none⟩)):=(bG _ _ _ _ _ _ h.blk).trans rfl
theorem P8(r c:Nat)(w:World)(hr:1≤r∧r≤12)(hc:1≤c∧c≤40)(hs:2<w.heap.size):Calls prog 9 #[.int .i64 (r:Int),.int .i64 (c:Int)] w fun e w'=>∃pb fb tb L v0 v1,e= .returned (.tuple #[.pointer (some ⟨pb,0,none⟩),.bool true])∧VT w' pb fb tb∧Cm w' fb L (akA.fresh r c)∧bR w' tb v0 v1 ByteArray.empty 0 (DT.fresh r c 0)∧w.heap.size≤pb∧w.heap.size≤fb∧w.heap.size≤tb∧(∀k,L.own k→w.heap.size≤k)∧(∀k,L.own k→k<pb)∧fb<pb∧tb<pb∧Below w.heap.size w w':=by
 have l1:=Vb r c w hr hc hs;go_enter func9,ntmps9;go_wp2_with fail;refine l1.mono ?_;rintro e w1 ⟨fb,L,rfl,f1,hfb,hown,b1⟩;have Cn:Hid _:=f1;have HB1:Hid _:=b1;have HOWN:Hid _:=hown;clear l1 f1 b1 hown;go_wp2_with fail;refine(UB r c _ hr hc).mono ?_;rintro e w2 ⟨tb,v0,v1,rfl,t2,htb,wI⟩;have HT2:Hid _:=t2;have HS2:Hid (Sm w1 w2):=wI;have Cx:Hid (Cm w2 fb L (akA.fresh r c)):=Cn.o.kept wI id (fun _ _=>id);clear t2 wI;go_wp2_with fail;refine(Ma 0 _).mono ?_;rintro e w3 ⟨rfl,hw3⟩;have afa:=hw3.symm;subst afa;clear hw3;go_wp2_with fail
 first|go_ret2|go_ret
 have hlt:=HT2.o.lt;have hsz:=HS2.o.size;have hsz1:=HB1.o.size;have hfl:=Cx.o.lt;have smA:Sm w2 (w2.alloc (.cells #[.pointer (some ⟨fb,0,none⟩),.pointer (some ⟨tb,0,none⟩)] 31)):=(Ch.refl _ _).alloc _;refine⟨w2.heap.size,fb,tb,L,v0,v1,rfl,⟨bV _ _⟩,Cx.o.kept smA id (fun _ _=>id),HT2.o.sm smA,by omega,hfb,by omega,HOWN.o,fun k hk=>Cx.o.te.pQ hk,hfl,hlt,?_⟩;exact HB1.o.trans ((HS2.o.trans smA).below (by omega) (fun _ _ h=>h))
theorem Nz(pb fb tb:Nat)(L:Lay)(x:akA)(v0 v1:Value)(fed:ByteArray)(done:Nat)(d:DT)(w:World)(hp:VT w pb fb tb)(hf:Cm w fb L x)(ht:bR w tb v0 v1 fed done d)(hI:x.t.Inv)(hF:x.t.Fit)(hok:d.Ok)(hx:d.abs=x.t):Calls prog 12 #[.pointer (some ⟨pb,0,none⟩)] w fun e w'=>e= .returned (.bool true)∧Sm w w':=by
 have l1:=Qp fb L x hI hF w hf;have c0:=hp.c0;have HP:Hid _:=hp;have HT:Hid _:=ht;have hpl:=aK hp.blk;clear hp hf ht;go_enter func12,ntmps12;go_wp2_with fail;refine l1.mono ?_;rintro e w1 ⟨⟨U,rfl,hU⟩,b1⟩;have HU:Hid _:=hU;have S1:Sm w w1:=Ch.of_below b1;have c1:w1.cell? ⟨pb,1,none⟩=some (.pointer (some ⟨tb,0,none⟩)):=(dA (S1.block pb hpl id)).trans HP.o.c1;have wu:Hid _:=S1;have HT1:Hid (bR w1 tb v0 v1 fed done d):=HT.o.sm S1;clear l1 hU b1 S1 c0;go_wp2_with fail;refine(Qg tb v0 v1 fed done d _ HT1.o hok).mono ?_;rintro e w2 ⟨V,rfl,hV,wI⟩;have hUV:U=V:=by
  have h9:bl U=bl V:=by rw[HU.o,hV,hx]
  exact Ex h9
 subst hUV;have HS2:Hid (Sm w w2):=wu.o.trans wI;clear wI hV c1;go_wp2_with fail;go_ret;exact⟨by simp,HS2.o⟩
theorem OT.fresh{v0 v1:Value}{r c:Nat}(h:bR w tb v0 v1 ByteArray.empty 0 (DT.fresh r c 0)):OT w tb ByteArray.empty r c:=⟨v0,v1,h⟩
theorem JL(a b:Int)(text:ByteArray)(w:World)(htb:zm w)(hts:text.size≤1048576):
 Calls prog 4 #[.int .i64 a,.int .i64 b,.string text] w fun e w'=>e= .returned (.bool true)∧Below w.heap.size w w':=by
 have hw2:2<w.heap.size:=by obtain⟨t,fr,h⟩:=htb.st;exact aK h
 by_cases hsz:1≤a∧a≤12∧1≤b∧b≤40
 ·obtain⟨r,rfl⟩:∃r:Nat,a=(r:Int):=⟨a.toNat,by omega⟩;obtain⟨c,rfl⟩:∃c:Nat,b=(c:Int):=⟨b.toNat,by omega⟩;have hr:1≤r∧r≤12:=by omega
  have hc:1≤c∧c≤40:=by omega
  clear hsz;have HTB:Hid _:=htb;clear htb;go_enter func4,ntmps4;go_wp2_with fail;refine(P8 r c w hr hc hw2).mono ?_;rintro e w1 ⟨pb,fb,tb,L,v0,v1,rfl,p1,f1,t1,hpb,hfb,htb',hown,V8,hfp,htp,b1⟩;have c0:=p1.c0;have S_:Hid _:=p1;have Cn:Hid _:=f1;have HT1:Hid _:=t1;have HB1:Hid _:=b1;have HOWN:Hid _:=hown;have VP:Hid _:=V8;have aej:Hid (zm w1):=HTB.o.ch (P:=fun k=>w.heap.size≤k) ⟨b1.os,b1.tape,b1.output,b1.size,fun i hi hn=>b1.block i (by omega)⟩ (fun k hk h=>by omega);have hpl:=aK p1.blk;clear p1 f1 t1 b1 hown V8;go_wp2_with fail;refine(Qv fb L (akA.fresh r c) text _ Cn.o (akA.Ok.fresh hr hc) aej.o (by omega) (by omega)).mono ?_;rintro e w2 ⟨rfl,vv,cs,L2,fi⟩;have hch:=fi.ch;have d1:w2.cell? ⟨pb,1,none⟩=some (.pointer (some ⟨tb,0,none⟩)):=(dA (hch.block pb hpl (by rintro(e|e);omega;have:=VP.o pb e;omega))).trans S_.o.c1;have sQ:Hid (VT w2 pb fb tb):=⟨(hch.block pb hpl (by rintro(e|e);omega;have:=VP.o pb e;omega)).trans S_.o.blk⟩;have HT2:Hid (bR w2 tb v0 v1 ByteArray.empty 0 (DT.fresh r c 0)):=HT1.o.acm Cn.o (TS.Inv.fresh hr hc) hch;have HFI:Hid _:=fi;have HB2:Hid (Below w.heap.size w w2):=HB1.o.trans (hch.below HB1.o.size (fun k hk e=>by rcases e with e|e;omega;have:=HOWN.o k e;omega));have hsz2:=hch.size;clear fi hch c0;go_wp2_with fail;refine(M4 Ql tb ByteArray.empty text r c _ hr hc (OT.fresh HT2.o) (by have:ByteArray.empty.size=0:=rfl;omega)).mono ?_;rintro e w3 ⟨rfl,hd3,k3⟩;have Ep:Hid _:=k3;have FQ:Hid (VT w3 pb fb tb):=⟨(k3.block pb (by omega) (by omega)).trans sQ.o.blk⟩;have hne:tb≠fb:=by rintro rfl;have h9:=HFI.o.f.rd.c2;rw[show(0+2:Nat)=2 from rfl,HT2.o.LJ]at h9;cases h9
  have hI2:((akA.fresh r c).feed (bl text)).t.Inv:=((akA.Ok.fresh hr hc).feed (bl text) (sZ text)).t;have hno:¬L2.own tb:=fun ho=>by
   obtain⟨cur',t,fr',hc',ht⟩:=HFI.o.f.te.yz hI2 ho;rw[HT2.o.blk]at hc';cases hc'
   revert ht;decide
  have O7:Hid (Cm w3 fb L2 ((akA.fresh r c).feed (bl text))):=HFI.o.f.kept k3 (fun e=>hne e.symm) (fun k hk e=>hno (e▸hk));have hem:ByteArray.empty++text=text:=Ex (by rw[aL];rfl);rw[hem]at hd3;obtain⟨x0,x1,t3⟩:=hd3;have HT3:Hid _:=t3;have ab0:=Qk (Br r c hr hc).1 r c (Br r c hr hc).2 (bl text) (sZ text);have hFt:((akA.fresh r c).feed (bl text)).t.Fit:=Nf r c hr hc (bl text) (sZ text);have HB3:Hid (Below w.heap.size w w3):=HB2.o.trans (k3.below HB2.o.size (fun k hk e=>by omega));clear t3 k3 d1;go_wp2_with fail;refine(Nz pb fb tb L2 _ x0 x1 text _ _ _ FQ.o O7.o HT3.o hI2 hFt ab0.1 ab0.2).mono ?_;rintro e w4 ⟨rfl,Vv⟩;have Ja:Hid (Below w.heap.size w w4):=HB3.o.trans (Vv.below HB3.o.size (fun _ _ h=>h));clear Vv;go_wp2_with fail;go_ret;exact⟨rfl,Ja.o⟩
 ·have l1:=MP a b w hsz;clear hsz;go_enter func4,ntmps4;go_wp2_with (go_at_call 9;refine l1.mono ?_;rintro e w1 ⟨rfl,hw1⟩;have YA:=hw1.symm;subst YA);go_ret;exact⟨rfl,dU _ _⟩
theorem g1:prog.globalNamed "slate/chars.leads" =some 0:=by kernel_rfl
theorem g1T:(prog.globals[0]?).map (·.type)=some 154:=by kernel_rfl
theorem cells3:prog.cellsOf 3=1:=by kernel_rfl
theorem cells5:prog.cellsOf 5=1:=by kernel_rfl
theorem LU:prog.cellsOf 153=6:=by kernel_rfl
theorem Uu:prog.cellsOf 154=48:=by kernel_rfl
theorem kE(m:Nat):∀(rows:List (List Value)) (cs:List Value),cs.length=rows.length*m→(∀i r,rows[i]? =some r→(cs.drop (i*m)).take m=r)→cs=rows.flatten
 | [],cs,hl,_=>by
   have:cs.length=0:=by simpa using hl
   simp[zT this]
 |r::rs,cs,hl,h=>by
  have h0:=h 0 r rfl;simp only[Nat.zero_mul,List.drop_zero]at h0;have hl':cs.length=rs.length*m+m:=by rw[hl,fE,Nat.add_mul,Nat.one_mul]
  have ih:=kE m rs (cs.drop m) (by rw[o8];omega) (fun i r' hr=>by
   have:=h (i+1) r' (by simpa using hr);rw[List.drop_drop,show m+i*m=(i+1)*m by rw[Nat.add_mul,Nat.one_mul,Nat.add_comm]]
   exact this)
  rw[List.flatten_cons, ←ih, ←h0,List.take_append_drop]
section
variable {H:Type} {enc:TypeId × Value→H} {w:World} {base:Nat} {sp:Nat→Bool} {held:Bool} {fuel:Nat}
theorem jX{t:TypeId}{k:IntKind}{n:Int}{xs:List (DataW H × List MemPlace)}{i:Nat}{cs:List Value}(ht:prog.underlying t=some (.int k))(hx:(xs.map (·.1))[i]? =some (.lit (.int k n)))(h:DataW.trod enc prog w base sp held fuel t cs=xs[i]?):cs=[.int k n]:=by
 rw[pW]at hx;cases hxi:xs[i]? with
 |none=>rw[hxi]at hx;simp at hx
 |some x=>rw[hxi]at hx h;obtain⟨z,hc,rfl,_⟩:=DataW.trod_int ht h;simp at hx;rw[hc,hx]
theorem J2{cs:List Value}{p:List MemPlace}{a b c d e f:Int}(h:DataW.trod enc prog w base sp held fuel 153 cs=some (.agg [.lit (.int .u8 a),.lit (.int .u8 b),.lit (.int .u8 c),.lit (.int .i64 d),.lit (.int .u8 e),.lit (.int .u8 f)],p)):
 cs=[.int .u8 a,.int .u8 b,.int .u8 c,.int .i64 d,.int .u8 e,.int .u8 f]:=by
 obtain⟨xs,n,rfl,hx,hl,hxl,hf⟩:=DataW.trod_struct underlying153 h;have hx1:xs.map (·.1)=[.lit (.int .u8 a),.lit (.int .u8 b),.lit (.int .u8 c),.lit (.int .i64 d),.lit (.int .u8 e),.lit (.int .u8 f)]:=by have:=congrArg Prod.fst hx;simpa using this.symm
 rw[LU]at hl;have f0:(cs.drop 0).take (prog.cellsOf 5)=[.int .u8 a]:=jX underlying5 (by rw[hx1];rfl) (hf 0 _ rfl);rw[cells5]at f0;have f1:(cs.drop 1).take (prog.cellsOf 5)=[.int .u8 b]:=jX underlying5 (by rw[hx1];rfl) (hf 1 _ rfl);rw[cells5]at f1;have f2:(cs.drop 2).take (prog.cellsOf 5)=[.int .u8 c]:=jX underlying5 (by rw[hx1];rfl) (hf 2 _ rfl);rw[cells5]at f2;have f3:(cs.drop 3).take (prog.cellsOf 3)=[.int .i64 d]:=jX underlying3 (by rw[hx1];rfl) (hf 3 _ rfl);rw[cells3]at f3;have f4:(cs.drop 4).take (prog.cellsOf 5)=[.int .u8 e]:=jX underlying5 (by rw[hx1];rfl) (hf 4 _ rfl);rw[cells5]at f4;have f5:(cs.drop 5).take (prog.cellsOf 5)=[.int .u8 f]:=jX underlying5 (by rw[hx1];rfl) (hf 5 _ rfl);rw[cells5]at f5
 have:=kE 1 [[.int .u8 a],[.int .u8 b],[.int .u8 c],[.int .i64 d],[.int .u8 e],[.int .u8 f]] cs (by simpa using hl) (fun i r hr=>by
  match i,hr with
  | 0,hr=>simp at hr;subst hr;exact f0
  | 1,hr=>simp at hr;subst hr;exact f1
  | 2,hr=>simp at hr;subst hr;exact f2
  | 3,hr=>simp at hr;subst hr;exact f3
  | 4,hr=>simp at hr;subst hr;exact f4
  | 5,hr=>simp at hr;subst hr;exact f5
  |n+6,hr=>simp at hr)
 simpa using this
theorem ny{xs:List (DataW H × List MemPlace)}{i:Nat}{cs:List Value}{a b c d e f:Int}(hx:(xs.map (·.1))[i]? =some (.agg [.lit (.int .u8 a),.lit (.int .u8 b),.lit (.int .u8 c),.lit (.int .i64 d),.lit (.int .u8 e),.lit (.int .u8 f)]))(h:DataW.trod enc prog w base sp held fuel 153 cs=xs[i]?):cs=[.int .u8 a,.int .u8 b,.int .u8 c,.int .i64 d,.int .u8 e,.int .u8 f]:=by
 rw[pW]at hx;cases hxi:xs[i]? with
 |none=>rw[hxi]at hx;simp at hx
 |some x=>rw[hxi]at hx h;simp only[Option.map_some,xW]at hx;exact J2 (p:=x.2) (by rw[h, ←hx])
theorem Hf{cs:List Value}{p:List MemPlace}(h:DataW.trod enc prog w base sp held fuel 154 cs=some (Rows.laid_slate_chars_leads,p)):cs=iT.toList:=by
 obtain⟨xs,n,rfl,hx,hl,hxl,hf⟩:=DataW.trod_array underlying154 h;have hx0:DataW.agg (xs.map (·.1))=Rows.laid_slate_chars_leads:=(congrArg Prod.fst hx).symm;unfold Rows.laid_slate_chars_leads at hx0;have hx1:=DataW.agg.inj hx0;rw[Uu]at hl;simp only[LU]at hf;have f0:=ny (by rw[hx1];rfl) (hf 0 (by omega));have f1:=ny (by rw[hx1];rfl) (hf 1 (by omega));have f2:=ny (by rw[hx1];rfl) (hf 2 (by omega));have f3:=ny (by rw[hx1];rfl) (hf 3 (by omega));have f4:=ny (by rw[hx1];rfl) (hf 4 (by omega));have f5:=ny (by rw[hx1];rfl) (hf 5 (by omega));have f6:=ny (by rw[hx1];rfl) (hf 6 (by omega));have f7:=ny (by rw[hx1];rfl) (hf 7 (by omega))
 have:=kE 6 [[.int .u8 194,.int .u8 223,.int .u8 31,.int .i64 1,.int .u8 128,.int .u8 191],[.int .u8 224,.int .u8 224,.int .u8 15,.int .i64 2,.int .u8 160,.int .u8 191],[.int .u8 225,.int .u8 236,.int .u8 15,.int .i64 2,.int .u8 128,.int .u8 191],[.int .u8 237,.int .u8 237,.int .u8 15,.int .i64 2,.int .u8 128,.int .u8 159],[.int .u8 238,.int .u8 239,.int .u8 15,.int .i64 2,.int .u8 128,.int .u8 191],[.int .u8 240,.int .u8 240,.int .u8 7,.int .i64 3,.int .u8 144,.int .u8 191],[.int .u8 241,.int .u8 243,.int .u8 7,.int .i64 3,.int .u8 128,.int .u8 191],[.int .u8 244,.int .u8 244,.int .u8 7,.int .i64 3,.int .u8 128,.int .u8 143]] cs (by simpa using hl) (fun i r hr=>by
  match i,hr with
  | 0,hr=>exact f0.trans (gz hr)
  | 1,hr=>exact f1.trans (gz hr)
  | 2,hr=>exact f2.trans (gz hr)
  | 3,hr=>exact f3.trans (gz hr)
  | 4,hr=>exact f4.trans (gz hr)
  | 5,hr=>exact f5.trans (gz hr)
  | 6,hr=>exact f6.trans (gz hr)
  | 7,hr=>exact f7.trans (gz hr)
  |n+8,hr=>simp at hr)
 rw[this];rfl
end
theorem g0:prog.globalNamed "slate/chars.spans" =some 1:=by kernel_rfl
theorem g0T:(prog.globals[1]?).map (·.type)=some 208:=by kernel_rfl
theorem LQ:prog.cellsOf 207=3:=by kernel_rfl
theorem Ut:prog.cellsOf 208=42:=by kernel_rfl
section
variable {H:Type} {enc:TypeId × Value→H} {w:World} {base:Nat} {sp:Nat→Bool} {held:Bool} {fuel:Nat}
theorem KI{cs:List Value}{p:List MemPlace}{a b c:Int}(h:DataW.trod enc prog w base sp held fuel 207 cs=some (.agg [.lit (.int .i64 a),.lit (.int .i64 b),.lit (.int .i64 c)],p)):
 cs=[.int .i64 a,.int .i64 b,.int .i64 c]:=by
 obtain⟨xs,n,rfl,hx,hl,hxl,hf⟩:=DataW.trod_struct underlying207 h;have hx1:xs.map (·.1)=[.lit (.int .i64 a),.lit (.int .i64 b),.lit (.int .i64 c)]:=by have:=congrArg Prod.fst hx;simpa using this.symm
 rw[LQ]at hl;have f0:(cs.drop 0).take (prog.cellsOf 3)=[.int .i64 a]:=jX underlying3 (by rw[hx1];rfl) (hf 0 _ rfl);rw[cells3]at f0;have f1:(cs.drop 1).take (prog.cellsOf 3)=[.int .i64 b]:=jX underlying3 (by rw[hx1];rfl) (hf 1 _ rfl);rw[cells3]at f1;have f2:(cs.drop 2).take (prog.cellsOf 3)=[.int .i64 c]:=jX underlying3 (by rw[hx1];rfl) (hf 2 _ rfl);rw[cells3]at f2
 have:=kE 1 [[.int .i64 a],[.int .i64 b],[.int .i64 c]] cs (by simpa using hl) (fun i r hr=>by
  match i,hr with
  | 0,hr=>simp at hr;subst hr;exact f0
  | 1,hr=>simp at hr;subst hr;exact f1
  | 2,hr=>simp at hr;subst hr;exact f2
  |n+3,hr=>simp at hr)
 simpa using this
theorem ig{xs:List (DataW H × List MemPlace)}{i:Nat}{cs:List Value}{a b c:Int}(hx:(xs.map (·.1))[i]? =some (.agg [.lit (.int .i64 a),.lit (.int .i64 b),.lit (.int .i64 c)]))(h:DataW.trod enc prog w base sp held fuel 207 cs=xs[i]?):cs=[.int .i64 a,.int .i64 b,.int .i64 c]:=by
 rw[pW]at hx;cases hxi:xs[i]? with
 |none=>rw[hxi]at hx;simp at hx
 |some x=>rw[hxi]at hx h;simp only[Option.map_some,xW]at hx;exact KI (p:=x.2) (by rw[h, ←hx])
theorem Iu{cs:List Value}{p:List MemPlace}(h:DataW.trod enc prog w base sp held fuel 208 cs=some (Rows.laid_slate_chars_spans,p)):cs=fT.toList:=by
 obtain⟨xs,n,rfl,hx,hl,hxl,hf⟩:=DataW.trod_array underlying208 h;have hx0:DataW.agg (xs.map (·.1))=Rows.laid_slate_chars_spans:=(congrArg Prod.fst hx).symm;unfold Rows.laid_slate_chars_spans at hx0;have hx1:=DataW.agg.inj hx0;rw[Ut]at hl;simp only[LQ]at hf;have f0:=ig (by rw[hx1];rfl) (hf 0 (by omega));have f1:=ig (by rw[hx1];rfl) (hf 1 (by omega));have f2:=ig (by rw[hx1];rfl) (hf 2 (by omega));have f3:=ig (by rw[hx1];rfl) (hf 3 (by omega));have f4:=ig (by rw[hx1];rfl) (hf 4 (by omega));have f5:=ig (by rw[hx1];rfl) (hf 5 (by omega));have f6:=ig (by rw[hx1];rfl) (hf 6 (by omega));have f7:=ig (by rw[hx1];rfl) (hf 7 (by omega));have f8:=ig (by rw[hx1];rfl) (hf 8 (by omega));have f9:=ig (by rw[hx1];rfl) (hf 9 (by omega));have f10:=ig (by rw[hx1];rfl) (hf 10 (by omega));have f11:=ig (by rw[hx1];rfl) (hf 11 (by omega));have f12:=ig (by rw[hx1];rfl) (hf 12 (by omega));have f13:=ig (by rw[hx1];rfl) (hf 13 (by omega))
 have:=kE 3 [[.int .i64 0,.int .i64 31,.int .i64 0],[.int .i64 127,.int .i64 159,.int .i64 0],[.int .i64 768,.int .i64 879,.int .i64 0],[.int .i64 4352,.int .i64 4447,.int .i64 2],[.int .i64 8203,.int .i64 8207,.int .i64 0],[.int .i64 11904,.int .i64 42191,.int .i64 2],[.int .i64 44032,.int .i64 55203,.int .i64 2],[.int .i64 63744,.int .i64 64255,.int .i64 2],[.int .i64 65024,.int .i64 65039,.int .i64 0],[.int .i64 65072,.int .i64 65135,.int .i64 2],[.int .i64 65280,.int .i64 65376,.int .i64 2],[.int .i64 65504,.int .i64 65510,.int .i64 2],[.int .i64 127744,.int .i64 128591,.int .i64 2],[.int .i64 131072,.int .i64 262141,.int .i64 2]] cs (by simpa using hl) (fun i r hr=>by
  match i,hr with
  | 0,hr=>exact f0.trans (gz hr)
  | 1,hr=>exact f1.trans (gz hr)
  | 2,hr=>exact f2.trans (gz hr)
  | 3,hr=>exact f3.trans (gz hr)
  | 4,hr=>exact f4.trans (gz hr)
  | 5,hr=>exact f5.trans (gz hr)
  | 6,hr=>exact f6.trans (gz hr)
  | 7,hr=>exact f7.trans (gz hr)
  | 8,hr=>exact f8.trans (gz hr)
  | 9,hr=>exact f9.trans (gz hr)
  | 10,hr=>exact f10.trans (gz hr)
  | 11,hr=>exact f11.trans (gz hr)
  | 12,hr=>exact f12.trans (gz hr)
  | 13,hr=>exact f13.trans (gz hr)
  |n+14,hr=>simp at hr)
 rw[this];rfl
end
theorem g2:prog.globalNamed "slate/chars.strokes" =some 2:=by kernel_rfl
theorem g2T:(prog.globals[2]?).map (·.type)=some 237:=by kernel_rfl
theorem Ad:prog.cellsOf 236=2:=by kernel_rfl
theorem EB:prog.cellsOf 237=22:=by kernel_rfl
section
variable {H:Type} {enc:TypeId × Value→H} {w:World} {base:Nat} {sp:Nat→Bool} {held:Bool} {fuel:Nat}
theorem Fx{cs:List Value}{p:List MemPlace}{a b:Int}(h:DataW.trod enc prog w base sp held fuel 236 cs=some (.agg [.lit (.int .i64 a),.lit (.int .i64 b)],p)):
 cs=[.int .i64 a,.int .i64 b]:=by
 obtain⟨xs,n,rfl,hx,hl,hxl,hf⟩:=DataW.trod_struct underlying236 h;have hx1:xs.map (·.1)=[.lit (.int .i64 a),.lit (.int .i64 b)]:=by have:=congrArg Prod.fst hx;simpa using this.symm
 rw[Ad]at hl;have f0:(cs.drop 0).take (prog.cellsOf 3)=[.int .i64 a]:=jX underlying3 (by rw[hx1];rfl) (hf 0 _ rfl);rw[cells3]at f0;have f1:(cs.drop 1).take (prog.cellsOf 3)=[.int .i64 b]:=jX underlying3 (by rw[hx1];rfl) (hf 1 _ rfl);rw[cells3]at f1
 have:=kE 1 [[.int .i64 a],[.int .i64 b]] cs (by simpa using hl) (fun i r hr=>by
  match i,hr with
  | 0,hr=>simp at hr;subst hr;exact f0
  | 1,hr=>simp at hr;subst hr;exact f1
  |n+2,hr=>simp at hr)
 simpa using this
theorem iw{xs:List (DataW H × List MemPlace)}{i:Nat}{cs:List Value}{a b:Int}(hx:(xs.map (·.1))[i]? =some (.agg [.lit (.int .i64 a),.lit (.int .i64 b)]))(h:DataW.trod enc prog w base sp held fuel 236 cs=xs[i]?):cs=[.int .i64 a,.int .i64 b]:=by
 rw[pW]at hx;cases hxi:xs[i]? with
 |none=>rw[hxi]at hx;simp at hx
 |some x=>rw[hxi]at hx h;simp only[Option.map_some,xW]at hx;exact Fx (p:=x.2) (by rw[h, ←hx])
theorem CP{cs:List Value}{p:List MemPlace}(h:DataW.trod enc prog w base sp held fuel 237 cs=some (Rows.laid_slate_chars_strokes,p)):cs=eY.toList:=by
 obtain⟨xs,n,rfl,hx,hl,hxl,hf⟩:=DataW.trod_array underlying237 h;have hx0:DataW.agg (xs.map (·.1))=Rows.laid_slate_chars_strokes:=(congrArg Prod.fst hx).symm;unfold Rows.laid_slate_chars_strokes at hx0;have hx1:=DataW.agg.inj hx0;rw[EB]at hl;simp only[Ad]at hf;have f0:=iw (by rw[hx1];rfl) (hf 0 (by omega));have f1:=iw (by rw[hx1];rfl) (hf 1 (by omega));have f2:=iw (by rw[hx1];rfl) (hf 2 (by omega));have f3:=iw (by rw[hx1];rfl) (hf 3 (by omega));have f4:=iw (by rw[hx1];rfl) (hf 4 (by omega));have f5:=iw (by rw[hx1];rfl) (hf 5 (by omega));have f6:=iw (by rw[hx1];rfl) (hf 6 (by omega));have f7:=iw (by rw[hx1];rfl) (hf 7 (by omega));have f8:=iw (by rw[hx1];rfl) (hf 8 (by omega));have f9:=iw (by rw[hx1];rfl) (hf 9 (by omega));have f10:=iw (by rw[hx1];rfl) (hf 10 (by omega))
 have:=kE 2 [[.int .i64 106,.int .i64 9496],[.int .i64 107,.int .i64 9488],[.int .i64 108,.int .i64 9484],[.int .i64 109,.int .i64 9492],[.int .i64 110,.int .i64 9532],[.int .i64 113,.int .i64 9472],[.int .i64 116,.int .i64 9500],[.int .i64 117,.int .i64 9508],[.int .i64 118,.int .i64 9524],[.int .i64 119,.int .i64 9516],[.int .i64 120,.int .i64 9474]] cs (by simpa using hl) (fun i r hr=>by
  match i,hr with
  | 0,hr=>exact f0.trans (gz hr)
  | 1,hr=>exact f1.trans (gz hr)
  | 2,hr=>exact f2.trans (gz hr)
  | 3,hr=>exact f3.trans (gz hr)
  | 4,hr=>exact f4.trans (gz hr)
  | 5,hr=>exact f5.trans (gz hr)
  | 6,hr=>exact f6.trans (gz hr)
  | 7,hr=>exact f7.trans (gz hr)
  | 8,hr=>exact f8.trans (gz hr)
  | 9,hr=>exact f9.trans (gz hr)
  | 10,hr=>exact f10.trans (gz hr)
  |n+11,hr=>simp at hr)
 rw[this];rfl
end
theorem KQ(h:laidMet prog (("math/bits.deBruijn32tab",x0)::("math/bits.deBruijn64tab",x1)::("internal/strconv.uint64pow10",x2)::("slate/chars.strokes",Rows.laid_slate_chars_strokes)::rest) W):mE W:=by
 obtain⟨ps,⟨_,_,_,_,_,qa2,_,_,_,_,⟨_,_,_,_,_,qa1,_,_,_,_,⟨_,_,_,_,_,qa0,_,_,_,_,⟨g',t',cs,fuel,p,q,hg',ht',hvar,hd,_,_⟩,_⟩,_⟩,_⟩,_⟩:=h;obtain rfl:=gz (g2.symm.trans hg');obtain rfl:=gz (g2T.symm.trans ht');have hc:=CP hd;unfold World.var? at hvar;rw[g2]at hvar;simp only[zV]at hvar;split at hvar
 ·rename_i cs' t fr hb;simp only[xW]at hvar;subst hvar;have:cs'=eY:=Array.toList_inj.1 hc;exact⟨t,fr,by rw[hb,this]⟩
 ·cases hvar
theorem Nr(h:laidMet prog (("math/bits.deBruijn32tab",x0)::("math/bits.deBruijn64tab",x1)::("internal/strconv.uint64pow10",x2)::("slate/chars.strokes",d)::("slate/chars.leads",Rows.laid_slate_chars_leads)::rest) W):qb W:=by
 obtain⟨ps,⟨_,_,_,_,_,qb3,_,_,_,_,⟨_,_,_,_,_,qb2,_,_,_,_,⟨_,_,_,_,_,qb1,_,_,_,_,⟨_,_,_,_,_,qb0,_,_,_,_,⟨g',t',cs,fuel,p,q,hg',ht',hvar,hd,_,_⟩,_⟩,_⟩,_⟩,_⟩,_⟩:=h;obtain rfl:=gz (g1.symm.trans hg');obtain rfl:=gz (g1T.symm.trans ht');have hc:=Hf hd;unfold World.var? at hvar;rw[g1]at hvar;simp only[zV]at hvar;split at hvar
 ·rename_i cs' t fr hb;simp only[xW]at hvar;subst hvar;have:cs'=iT:=Array.toList_inj.1 hc;exact⟨t,fr,by rw[hb,this]⟩
 ·cases hvar
theorem Oh{d':DataW Unit}(h:laidMet prog (("math/bits.deBruijn32tab",x0)::("math/bits.deBruijn64tab",x1)::("internal/strconv.uint64pow10",x2)::("slate/chars.strokes",d)::("slate/chars.leads",d')::("slate/chars.spans",Rows.laid_slate_chars_spans)::rest) W):A9 W:=by
 obtain⟨ps,⟨_,_,_,_,_,qc4,_,_,_,_,⟨_,_,_,_,_,qc3,_,_,_,_,⟨_,_,_,_,_,qc2,_,_,_,_,⟨_,_,_,_,_,qc1,_,_,_,_,⟨_,_,_,_,_,qc0,_,_,_,_,⟨g',t',cs,fuel,p,q,hg',ht',hvar,hd,_,_⟩,_⟩,_⟩,_⟩,_⟩,_⟩,_⟩:=h;obtain rfl:=gz (g0.symm.trans hg');obtain rfl:=gz (g0T.symm.trans ht');have hc:=Iu hd;unfold World.var? at hvar;rw[g0]at hvar;simp only[zV]at hvar;split at hvar
 ·rename_i cs' t fr hb;simp only[xW]at hvar;subst hvar;have:cs'=fT:=Array.toList_inj.1 hc;exact⟨t,fr,by rw[hb,this]⟩
 ·cases hvar
theorem Vw(h:laidMet prog [("math/bits.deBruijn32tab",x0),("math/bits.deBruijn64tab",x1),("internal/strconv.uint64pow10",x2),("slate/chars.strokes",Rows.laid_slate_chars_strokes),("slate/chars.leads",Rows.laid_slate_chars_leads),("slate/chars.spans",Rows.laid_slate_chars_spans)] W):zm W:=⟨Oh h,Nr h,KQ h⟩
def afS:DataW Unit→Value
 | .lit (.int k n)=>.int k n
 |_=>.int .i64 0
def PY:DataW Unit→Array Value
 | .agg l=>(l.map afS).toArray
 |_=>#[]
def EE:Array Value:=PY Rows.laid_math_bits_deBruijn32tab
def EF:Array Value:=PY Rows.laid_math_bits_deBruijn64tab
def BJ:Array Value:=PY Rows.laid_internal_strconv_uint64pow10
end Go.Proofs.YtheibfffilomcaaGreatDoor
