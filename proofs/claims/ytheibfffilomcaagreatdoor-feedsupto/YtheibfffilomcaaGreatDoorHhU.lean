import Derived.Test.YtheibfffilomcaaGreatDoorTmaU
import Derived.Test.YtheibfffilomcaaGreatDoorHcU
import Derived.Test.YtheibfffilomcaaGreatDoorRows
import Derived.Deep.Slices
import Derived.Leaving
import Derived.JoinedCond
import Derived.SevenTiedAt
set_option linter.all false
set_option maxRecDepth 100000
set_option maxHeartbeats 4000000
namespace Go.Proofs.YtheibfffilomcaaGreatDoor
open Go.RowKit Go.Proofs.Tryz
variable {w wr w':World} {bb rest:Nat} {p:Pinned} {s:OpenSpec}
def wC (K A B C:Int) (s:ByteArray) (lv:Value):List Value:=[.int .i64 K,.int .i64 A,.int .i64 B,.int .i64 C,.string s,lv]
theorem aac(pb fb tb:Nat)(L:Lay)(r c:Nat)(fed s:ByteArray)(K A B C:Int)(bv lv:Value)(w:World)(hr:1≤r∧r≤12)(hc:1≤c∧c≤40)(h:Pr w pb fb tb L r c fed)(htb:zm w)(h2f:2<fb)(h2t:2<tb)(nf:pb≠fb)(nt:pb≠tb)(nL:¬L.own pb)(hK:K≤6)(hK6:K≠6)(hsz:fed.size+s.size≤1048576):
 Calls prog 19 #[.pointer (some ⟨pb,0,none⟩),bv,.agg (wC K A B C s lv).toArray] w fun e w'=>e= .returned (.bool true)∧∃L',Pr w' pb fb tb L' r c (if K=1 then fed++s else fed)∧zm w'∧Ch (fun k=>k=fb∨k=tb∨L.own k) w w'∧(∀k,L'.own k→L.own k∨w.heap.size≤k)∧∀(G6 y9 vB:Nat) (L2:Lay) (r2 c2:Nat) (sS:ByteArray),Pr w G6 y9 vB L2 r2 c2 sS→(∀k,k=G6∨k=y9∨k=vB∨L2.own k→¬(k=fb∨k=tb∨L.own k))→Pr w' G6 y9 vB L2 r2 c2 sS:=by
 have hI:=h.inv hr hc;have hpl:=aK h.p.blk;have LT:∀k,L.own k→k<w.heap.size:=fun k hk=>by obtain⟨cur',t,fr',hc',_⟩:=h.f.te.yz hI hk;exact(wK.1 hc').1
 have hfl:=h.f.lt;have htl:tb<w.heap.size:=by obtain⟨y0,y1,hd⟩:=h.d;exact hd.lt
 have HNE:Hid (fb≠tb):=by rintro rfl;obtain⟨y0,y1,hd⟩:=h.d;have h9:=h.f.rd.c2;rw[show(0+2:Nat)=2 from rfl,hd.LJ]at h9;cases h9
 have SM:Sm w (w.alloc (.cells (wC K A B C s lv).toArray 59)):=(Ch.refl _ _).alloc _;have G0:(w.alloc (.cells (wC K A B C s lv).toArray 59)).heap[w.heap.size]? =some (.cells (wC K A B C s lv).toArray 59 (0,0)):=bV _ _;have e0:(w.alloc (.cells (wC K A B C s lv).toArray 59)).cell? ⟨w.heap.size,0,none⟩=some (.int .i64 K):=(bG _ _ _ _ _ _ G0).trans rfl;have e1:(w.alloc (.cells (wC K A B C s lv).toArray 59)).cell? ⟨w.heap.size,1,none⟩=some (.int .i64 A):=(bG _ _ _ _ _ _ G0).trans rfl;have e2:(w.alloc (.cells (wC K A B C s lv).toArray 59)).cell? ⟨w.heap.size,2,none⟩=some (.int .i64 B):=(bG _ _ _ _ _ _ G0).trans rfl;have e3:(w.alloc (.cells (wC K A B C s lv).toArray 59)).cell? ⟨w.heap.size,3,none⟩=some (.int .i64 C):=(bG _ _ _ _ _ _ G0).trans rfl;have e4:(w.alloc (.cells (wC K A B C s lv).toArray 59)).cell? ⟨w.heap.size,4,none⟩=some (.string s):=(bG _ _ _ _ _ _ G0).trans rfl;have HPR:Hid _:=h;have HTB:Hid _:=htb;have WW:Hid _:=SM;have TL:Hid _:=LT;clear SM G0 LT htb;by_cases k1:K=1
 ·subst k1;rw[ak rfl];have S0:({(w.alloc (.cells (wC 1 A B C s lv).toArray 59))with drawn:=(w.alloc (.cells (wC 1 A B C s lv).toArray 59)).drawn+1}:World).cell? ⟨pb,0,none⟩=some (.pointer (some ⟨fb,0,none⟩))∧({(w.alloc (.cells (wC 1 A B C s lv).toArray 59))with drawn:=(w.alloc (.cells (wC 1 A B C s lv).toArray 59)).drawn+1}:World).cell? ⟨w.heap.size,4,none⟩=some (.string s):=⟨((h.p.sm WW.o).c0:_),e4⟩;have S_:Hid (({(w.alloc (.cells (wC 1 A B C s lv).toArray 59))with drawn:=(w.alloc (.cells (wC 1 A B C s lv).toArray 59)).drawn+1}:World).cell? ⟨pb,1,none⟩=some (.pointer (some ⟨tb,0,none⟩))):=(h.p.sm WW.o).c1;have F1:Cm ({(w.alloc (.cells (wC 1 A B C s lv).toArray 59))with drawn:=(w.alloc (.cells (wC 1 A B C s lv).toArray 59)).drawn+1}:World) fb L ((akA.fresh r c).feed (bl fed)):=h.f.sm (WW.o.drewN 1);have TB1:Hid (zm ({(w.alloc (.cells (wC 1 A B C s lv).toArray 59))with drawn:=(w.alloc (.cells (wC 1 A B C s lv).toArray 59)).drawn+1}:World)):=HTB.o.ch (P:=fun _=>False) (WW.o.drewN 1) (fun _ _=>id);have HD0:Hid (OT ({(w.alloc (.cells (wC 1 A B C s lv).toArray 59))with drawn:=(w.alloc (.cells (wC 1 A B C s lv).toArray 59)).drawn+1}:World) tb fed r c):=h.d.sm (WW.o.drewN 1);have HP:Hid _:=h.p;have HPX:Hid (Pr ({(w.alloc (.cells (wC 1 A B C s lv).toArray 59))with drawn:=(w.alloc (.cells (wC 1 A B C s lv).toArray 59)).drawn+1}:World) pb fb tb L r c fed):=h.sm (WW.o.drewN 1);have HI1:Hid _:=hI;have HI2:Hid ((((akA.fresh r c).feed (bl fed)).feed (bl s)).t.Inv):=((akA.Ok.feed (akA.Ok.fresh hr hc) (bl fed) (sZ fed)).feed (bl s) (sZ s)).t;clear h e1 e2 e3 e4 hI;go_enter func19,ntmps19;go_wp2_with fail;refine dX (S:=fun z=>z.cell? ⟨pb,0,none⟩=some (.pointer (some ⟨fb,0,none⟩))∧z.cell? ⟨w.heap.size,4,none⟩=some (.string s)) aX ?_;refine ay 0 4 1 5 S0 ?_;simp only[ag,af];refine dW 2 3 S0 ?_;simp only[ag,af];refine av 6 ?_;refine dN (vs:=[.pointer (some ⟨fb,0,none⟩),.string s]) (Qv fb L _ s _ F1 (akA.Ok.feed (akA.Ok.fresh hr hc) (bl fed) (sZ fed)) TB1.o h2f (by omega)) ?_;rintro v1 w1 ⟨rfl,vv,cs,L2,fi⟩;have S1:w1.cell? ⟨pb,0,none⟩=some (.pointer (some ⟨fb,0,none⟩))∧w1.cell? ⟨w.heap.size,4,none⟩=some (.string s):=⟨(dA (fi.ch.block pb (by simp;omega) (by rintro(e|e);exact nf e;exact nL e))).trans S0.1,(dA (fi.ch.block w.heap.size (by simp) (by rintro(e|e);omega;have:=TL.o _ e;omega))).trans S0.2⟩;refine⟨S1,?_⟩
  try simp only[ag,af]
  refine aC ?_;have HFI:Hid _:=fi;have I1:Cm w1 fb L2 _:=fi.f;obtain⟨y0,y1,hd⟩:=HD0.o;have D1:OT ({w1 with drawn:=w1.drawn+1}:World) tb fed r c:=⟨y0,y1,(hd.acm F1 HI1.o fi.ch).sm ((Ch.refl _ _).drewN 1)⟩;have HD1:Hid _:=D1;have S2:({w1 with drawn:=w1.drawn+1}:World).cell? ⟨pb,1,none⟩=some (.pointer (some ⟨tb,0,none⟩))∧({w1 with drawn:=w1.drawn+1}:World).cell? ⟨w.heap.size,4,none⟩=some (.string s):=⟨(dA (fi.ch.block pb (by simp;omega) (by rintro(e|e);exact nf e;exact nL e))).trans S_.o,S1.2⟩;have hp1:pb<({w1 with drawn:=w1.drawn+1}:World).heap.size:=fJ (by simp;omega) fi.ch.size;have hs1:w.heap.size<({w1 with drawn:=w1.drawn+1}:World).heap.size:=fJ (by simp) fi.ch.size;clear fi S1 S0 F1 I1 hd;go_wp2_with fail;refine dX (S:=fun z=>z.cell? ⟨pb,1,none⟩=some (.pointer (some ⟨tb,0,none⟩))∧z.cell? ⟨w.heap.size,4,none⟩=some (.string s)) aX ?_;refine ay 0 4 1 5 S2 ?_;simp only[ag,af];refine dW 2 3 S2 ?_;simp only[ag,af];refine av 6 ?_;refine dN (vs:=[.pointer (some ⟨tb,0,none⟩),.string s]) (M4 Ql tb fed s r c _ hr hc D1 hsz) ?_;rintro v2 w2 ⟨rfl,d2,k2⟩;have S3:w2.cell? ⟨pb,1,none⟩=some (.pointer (some ⟨tb,0,none⟩))∧w2.cell? ⟨w.heap.size,4,none⟩=some (.string s):=⟨(dA (k2.block pb hp1 nt)).trans S2.1,(dA (k2.block w.heap.size hs1 (by omega))).trans S2.2⟩;refine⟨S3,?_⟩
  try simp only[ag,af]
  refine aC ?_;have HD2:Hid _:=d2;have mD:Hid _:=k2;clear d2 k2 S3 S2 D1;go_wp2_with fail;go_ret;have hsm:Sm w ({(w.alloc (.cells (wC 1 A B C s lv).toArray 59))with drawn:=(w.alloc (.cells (wC 1 A B C s lv).toArray 59)).drawn+1}:World):=((Ch.refl _ _).alloc _).drewN 1;have hne:fb≠tb:=HNE.o;have hno:¬L2.own tb:=fun ho=>by
   obtain⟨cur',t,fr',hc',ht⟩:=HFI.o.f.te.yz HI2.o ho;obtain⟨y0,y1,hd⟩:=HD1.o;rw[hd.blk]at hc';cases hc'
   revert ht;decide
  have hF:Cm w2 fb L2 (((akA.fresh r c).feed (bl fed)).feed (bl s)):=(HFI.o.f.sm ((Ch.refl _ _).drewN 1)).kept mD.o hne (fun k hk e=>hno (e▸hk));rw[←GJ, ←aL]at hF;have hc1:Ch (fun k=>k=fb∨k=tb∨L.own k) w ({w1 with drawn:=w1.drawn+1}:World):=((Sm.ch hsm).trans (HFI.o.ch.mono (fun k _ e=>e.elim .inl (fun e=>.inr (.inr e))))).drewN 1;have hc2:Ch (fun k=>k=fb∨k=tb∨L.own k) w w2:=hc1.trans (mD.o.mono (fun k _ e=>.inr (.inl e)));refine⟨rfl,L2,⟨⟨?_⟩,hF,HD2.o⟩,?_,hc2,fun k hk=>(HFI.o.gr k hk).imp id (fun h=>by simp at h;omega),fun G6 y9 vB L3 r2 c2 sS hY sep=>?_⟩
  rotate_left 2
  ·have hY1:=(hY.sm (WW.o.drewN 1)).ads HPX.o hr hc HFI.o.ch (fun e=>sep G6 (.inl rfl) (e.imp id .inr)) (fun e=>sep y9 (.inr (.inl rfl)) (e.imp id .inr)) (fun i hi e=>sep i (.inr (.inr (.inr hi))) (e.imp id .inr));exact(hY1.sm ((Ch.refl _ _).drewN 1)).adr HD1.o mD.o (fun e=>sep G6 (.inl rfl) (.inr (.inl e))) (fun e=>sep y9 (.inr (.inl rfl)) (.inr (.inl e))) (fun i hi e=>sep i (.inr (.inr (.inr hi))) (.inr (.inl e))) (fun e=>sep vB (.inr (.inr (.inl rfl))) (.inr (.inl e)))
  ·exact(hc2.block pb (aK HP.o.blk) (by rintro(e|e|e);exact nf e;exact nt e;exact nL e)).trans HP.o.blk
  ·exact(HFI.o.tb.ch (P:=fun _=>False) ((Ch.refl _ _).drewN 1) (fun _ _=>id)).ch mD.o (fun k hk e=>by omega)
 rw[ai k1];have N1:Hid _:=k1;clear h k1 hI;by_cases k2:K=2
 ·subst k2;go_enter func19,ntmps19;go_wp2_with fail;refine((HPR.o.sm WW.o).look hr hc).mono ?_;rintro e w1 ⟨rfl,s1⟩;have wu:Hid _:=WW.o.trans s1;clear s1;go_wp2_with fail;go_ret;exact⟨rfl,L,HPR.o.sm wu.o,HTB.o.ch (P:=fun _=>False) wu.o (fun _ _=>id),Sm.ch wu.o,fun k hk=>.inl hk,fun G6 y9 vB L2 r2 c2 sS hY _=>hY.sm wu.o⟩
 have N2:Hid _:=k2;clear k2;by_cases k3:K=3
 ·subst k3;go_enter func19,ntmps19;go_wp2_with fail;refine((HPR.o.sm WW.o).cell hr hc A B C).mono ?_;rintro e w1 ⟨rfl,s1⟩;have wu:Hid _:=WW.o.trans s1;clear s1;go_wp2_with fail;go_ret;exact⟨rfl,L,HPR.o.sm wu.o,HTB.o.ch (P:=fun _=>False) wu.o (fun _ _=>id),Sm.ch wu.o,fun k hk=>.inl hk,fun G6 y9 vB L2 r2 c2 sS hY _=>hY.sm wu.o⟩
 have N3:Hid _:=k3;clear k3;by_cases k4:K=4
 ·subst k4;go_enter func19,ntmps19;go_wp2_with fail;refine((HPR.o.sm WW.o).saved hr hc A).mono ?_;rintro e w1 ⟨rfl,s1⟩;have wu:Hid _:=WW.o.trans s1;clear s1;go_wp2_with fail;go_ret;exact⟨rfl,L,HPR.o.sm wu.o,HTB.o.ch (P:=fun _=>False) wu.o (fun _ _=>id),Sm.ch wu.o,fun k hk=>.inl hk,fun G6 y9 vB L2 r2 c2 sS hY _=>hY.sm wu.o⟩
 have N4:Hid _:=k4;clear k4;by_cases k5:K=5
 ·subst k5;go_enter func19,ntmps19;go_wp2_with fail;refine((HPR.o.sm WW.o).tab hr hc A).mono ?_;rintro e w1 ⟨rfl,s1⟩;have wu:Hid _:=WW.o.trans s1;clear s1;go_wp2_with fail;go_ret;exact⟨rfl,L,HPR.o.sm wu.o,HTB.o.ch (P:=fun _=>False) wu.o (fun _ _=>id),Sm.ch wu.o,fun k hk=>.inl hk,fun G6 y9 vB L2 r2 c2 sS hY _=>hY.sm wu.o⟩
 have N5:Hid _:=k5;clear k5;have b1:(K==1)=false:=by have:=N1.o;simp;omega
 have b2:(K==2)=false:=by have:=N2.o;simp;omega
 have b3:(K==3)=false:=by have:=N3.o;simp;omega
 have b4:(K==4)=false:=by have:=N4.o;simp;omega
 have b5:(K==5)=false:=by have:=N5.o;simp;omega
 have b7:(K==7)=false:=by simp;omega
 have b8:(K==8)=false:=by simp;omega
 have b9:(K==9)=false:=by simp;omega
 go_enter func19,ntmps19;go_wp2_with fail;go_ret;exact⟨rfl,L,HPR.o.sm WW.o,HTB.o.ch (P:=fun _=>False) WW.o (fun _ _=>id),Sm.ch WW.o,fun k hk=>.inl hk,fun G6 y9 vB L2 r2 c2 sS hY _=>hY.sm WW.o⟩
structure H8 where
 K:Int
 A:Int
 B:Int
 C:Int
 s:ByteArray
 la:Option Addr
 ln:Nat
 lc:Nat
def H8.v (o:H8):List Value:=wC o.K o.A o.B o.C o.s (.slice o.la o.ln o.lc)
theorem H8.one(o:H8):∀v∈o.v,v.oneCell'=true:=by intro v hv;simp only[H8.v,wC,kK,pX,pY]at hv;rcases hv with rfl|rfl|rfl|rfl|rfl|rfl<;>rfl
theorem XC:(prog.info? 59).map (·.size)=some 6:=by kernel_rfl
def eB (l:List H8):Nat:=(l.map (fun o=>o.s.size)).sum
structure PX where
 pb:Nat
 fb:Nat
 tb:Nat
 L:Lay
 r:Nat
 c:Nat
 fed:ByteArray
def PX.own (X:PX) (k:Nat):Prop:=k=X.pb∨k=X.fb∨k=X.tb∨X.L.own k
structure PX.At (X:PX) (base:Nat) (w:World):Prop where
 pr:Pr w X.pb X.fb X.tb X.L X.r X.c X.fed
 hr:1≤X.r∧X.r≤12
 hc:1≤X.c∧X.c≤40
 nf:X.pb≠X.fb
 nt:X.pb≠X.tb
 nL:¬X.L.own X.pb
 lo:∀k,X.own k→base≤k
theorem PX.At.lt{X:PX}{base:Nat}{w:World}(h:X.At base w):∀k,X.own k→k<w.heap.size:=by
 rintro k (rfl|rfl|rfl|hk)
 ·exact aK h.pr.p.blk
 ·exact h.pr.f.lt
 ·obtain⟨y0,y1,hd⟩:=h.pr.d;exact hd.lt
 ·obtain⟨cur',t,fr',hc',_⟩:=h.pr.f.te.yz (h.pr.inv h.hr h.hc) hk;exact(wK.1 hc').1
theorem PX.At.sm{X:PX}{base:Nat}(h:X.At base w)(s:Sm w w'):X.At base w':=⟨h.pr.sm s,h.hr,h.hc,h.nf,h.nt,h.nL,h.lo⟩
structure H9 (w wr:World) (bb:Nat) (X Y:PX) (rest:Nat):Prop where
 x:X.At w.heap.size wr
 y:Y.At w.heap.size wr
 dis:∀k,X.own k→¬Y.own k
 bk:wr.heap[bb]? =some (.cells zi.toArray 57 (0,0))
 bx:¬X.own bb
 b2:¬Y.own bb
 tb:zm wr
 iB:Below w.heap.size w wr
 sz:X.fed.size+Y.fed.size+rest≤1048576
theorem H9.swap{X Y:PX}(h:H9 w wr bb X Y rest):H9 w wr bb Y X rest:=⟨h.y,h.x,fun k a b=>h.dis k b a,h.bk,h.b2,h.bx,h.tb,h.iB,by have:=h.sz;omega⟩
theorem H9.less{rest':Nat}{X Y:PX}(h:H9 w wr bb X Y rest)(hl:rest'≤rest):H9 w wr bb X Y rest':=⟨h.x,h.y,h.dis,h.bk,h.bx,h.b2,h.tb,h.iB,by have:=h.sz;omega⟩
theorem H9.sm{X Y:PX}(h:H9 w wr bb X Y rest)(s:Sm wr w'):H9 w w' bb X Y rest:=⟨h.x.sm s,h.y.sm s,h.dis,(s.block bb (aK h.bk) id).trans h.bk,h.bx,h.b2,h.tb.ch (P:=fun _=>False) s (fun _ _=>id),h.iB.trans (s.below h.iB.size (fun _ _ e=>e)),h.sz⟩
theorem H9.step{X Y:PX}(h:H9 w wr bb X Y rest)(hw2:2<w.heap.size)(o:H8)(hK:o.K≤6)(hK6:o.K≠6)(hs:o.s.size≤rest)(bv:Value):Calls prog 19 #[.pointer (some ⟨X.pb,0,none⟩),bv,.agg o.v.toArray] wr fun e w'=>e= .returned (.bool true)∧∃X',X'.pb=X.pb∧H9 w w' bb X' Y (rest-o.s.size):=by
 have hsz:=h.sz;refine(aac X.pb X.fb X.tb X.L X.r X.c X.fed o.s o.K o.A o.B o.C bv _ wr h.x.hr h.x.hc h.x.pr h.tb (fJ hw2 (h.x.lo _ (.inr (.inl rfl)))) (fJ hw2 (h.x.lo _ (.inr (.inr (.inl rfl))))) h.x.nf h.x.nt h.x.nL hK hK6 (by omega)).mono ?_;rintro e w' ⟨rfl,L',pr,tbs,ch,own,oth⟩;have hP:∀k,k=X.fb∨k=X.tb∨X.L.own k→X.own k:=fun k e=>.inr e;have hlo:∀k,L'.own k→w.heap.size≤k:=fun k hk=>(own k hk).elim (fun e=>h.x.lo k (.inr (.inr (.inr e)))) (fun e=>iD h.iB.size e);have hnew:∀k,L'.own k→k<wr.heap.size→X.L.own k:=fun k hk hl=>(own k hk).elim id (fun e=>by omega);refine⟨rfl,⟨X.pb,X.fb,X.tb,L',X.r,X.c,if o.K=1 then X.fed++o.s else X.fed⟩,rfl,?_⟩;refine⟨⟨pr,h.x.hr,h.x.hc,h.x.nf,h.x.nt,fun e=>h.x.nL (hnew _ e (h.x.lt _ (.inl rfl))),?_⟩,⟨oth _ _ _ _ _ _ _ h.y.pr (fun k e1 e2=>h.dis k (hP k e2) e1),h.y.hr,h.y.hc,h.y.nf,h.y.nt,h.y.nL,h.y.lo⟩,?_,(ch.block bb (aK h.bk) (fun e=>h.bx (hP _ e))).trans h.bk,?_,h.b2,tbs,h.iB.trans (ch.below h.iB.size (fun k hk e=>by have:=h.x.lo k (hP k e);omega)),?_⟩
 ·rintro k (e|e|e|e)
  ·exact h.x.lo k (.inl e)
  ·exact h.x.lo k (.inr (.inl e))
  ·exact h.x.lo k (.inr (.inr (.inl e)))
  ·exact hlo k e
 ·rintro k e hy;have hlt:=h.y.lt k hy;rcases e with e|e|e|e
  ·exact h.dis k (.inl e) hy
  ·exact h.dis k (.inr (.inl e)) hy
  ·exact h.dis k (.inr (.inr (.inl e))) hy
  ·exact h.dis k (.inr (.inr (.inr (hnew k e hlt)))) hy
 ·rintro(e|e|e|e)
  ·exact h.bx (.inl e)
  ·exact h.bx (.inr (.inl e))
  ·exact h.bx (.inr (.inr (.inl e)))
  ·exact h.bx (.inr (.inr (.inr (hnew bb e (aK h.bk)))))
 ·show(if o.K=1 then X.fed++o.s else X.fed).size+Y.fed.size+(rest-o.s.size)≤1048576;split
  ·rw[iC];omega
  ·omega
theorem LD{ops:List H8}{k:Nat}{o:H8}(h:ops[k]? =some o):eB (ops.drop k)=o.s.size+eB (ops.drop (k+1)):=by obtain⟨hl,rfl⟩:=gJ.1 h;rw[uH hl];simp only[eB,List.map_cons,List.sum_cons]
theorem zk(r c:Nat):(akA.fresh r c).feed (bl ByteArray.empty)=akA.fresh r c:=rfl
theorem KS(a b:Int)(ops:List H8)(ad:Option Addr)(cap:Nat)(w:World)(htb:zm w)(hn:ops.length≤1048576)(hsz:eB ops≤1048576)(hrd:∀i o,ops[i]? =some o→∃g off,ad=some ⟨g,off,none⟩∧g<w.heap.size∧w.rangeAt g (off+i*6) o.v):
 Calls prog 8 #[.int .i64 a,.int .i64 b,.slice ad ops.length cap,.int .i64 6] w fun e w'=>e= .returned (.bool true)∧Below w.heap.size w w':=by
 have hw2:2<w.heap.size:=by obtain⟨t,fr,h⟩:=htb.st;exact aK h
 by_cases hin:1≤a∧a≤12∧1≤b∧b≤40
 ·obtain⟨r,rfl⟩:∃r:Nat,a=(r:Int):=⟨a.toNat,by omega⟩;obtain⟨c,rfl⟩:∃c:Nat,b=(c:Int):=⟨b.toNat,by omega⟩;have hr:1≤r∧r≤12:=by omega
  have hc:1≤c∧c≤40:=by omega
  have vr:IntKind.i64.wrap (13-(r:Int))=((13-r:Nat):Int):=by rw[show 13-(r:Int)=((13-r:Nat):Int) by omega];exact bD _ (by omega)
  have vc:IntKind.i64.wrap (41-(c:Int))=((41-c:Nat):Int):=by rw[show 41-(c:Int)=((41-c:Nat):Int) by omega];exact bD _ (by omega)
  have HTB:Hid _:=htb;have HRD:Hid _:=hrd;clear hin htb hrd;go_enter func8,ntmps8;go_wp2_with fail;refine(P8 r c w hr hc hw2).mono ?_;rintro e w1 ⟨pb,fb,tb,L,v0,v1,rfl,p1,f1,t1,hpb,hfb,htb',hown,V8,hfp,htp,b1⟩;have X1:(⟨pb,fb,tb,L,r,c,ByteArray.empty⟩:PX).At w.heap.size w1:=⟨⟨p1,by rw[zk];exact f1,OT.fresh t1⟩,hr,hc,by show pb≠fb;omega,by show pb≠tb;omega,fun e=>by have:=V8 _ e;simp at this,by rintro k (e|e|e|e);exact e▸hpb;exact e▸hfb;exact e▸htb';exact hown k e⟩;have wz:Hid _:=X1;have HB1:Hid _:=b1;have hs1:=b1.size;clear p1 f1 t1 b1 hown V8 X1;go_wp2_with fail;refine(P8 (13-r) (41-c) w1 (by omega) (by omega) (by omega)).mono ?_;rintro e w2 ⟨G6,y9,vB,L2,x0,x1,rfl,p2,f2,t2,aeR,aeP,aeU,hown2,aaH,ah5,ajg,b2⟩;have Y2:(⟨G6,y9,vB,L2,13-r,41-c,ByteArray.empty⟩:PX).At w1.heap.size w2:=⟨⟨p2,by rw[zk];exact f2,OT.fresh t2⟩,by show 1≤13-r∧13-r≤12;omega,by show 1≤41-c∧41-c≤40;omega,by show G6≠y9;omega,by show G6≠vB;omega,fun e=>by have:=aaH _ e;simp at this,by rintro k (e|e|e|e);exact e▸aeR;exact e▸aeP;exact e▸aeU;exact hown2 k e⟩;have hs2:=b2.size;have B2:Below w.heap.size w w2:=HB1.o.trans (b2.mono hs1);have I0:H9 w (w2.alloc (.cells zi.toArray 57)) w2.heap.size ⟨pb,fb,tb,L,r,c,ByteArray.empty⟩ ⟨G6,y9,vB,L2,13-r,41-c,ByteArray.empty⟩ (eB (ops.drop 0)):=by
   have sA:Sm w2 (w2.alloc (.cells zi.toArray 57)):=(Ch.refl _ _).alloc _;have hX:=wz.o.sm (Ch.of_below b2);have hY:(⟨G6,y9,vB,L2,13-r,41-c,ByteArray.empty⟩:PX).At w.heap.size w2:=⟨Y2.pr,Y2.hr,Y2.hc,Y2.nf,Y2.nt,Y2.nL,fun k hk=>iD hs1 (Y2.lo k hk)⟩;refine⟨hX.sm sA,hY.sm sA,fun k h1 h2=>?_,bV _ _,fun e=>?_,fun e=>?_,?_,B2.trans (sA.below B2.size (fun _ _ e=>e)),?_⟩
   ·have:=wz.o.lt k h1;have:=Y2.lo k h2;omega
   ·have:=hX.lt _ e;simp at this
   ·have:=hY.lt _ e;simp at this
   ·exact(HTB.o.ch (P:=fun k=>w.heap.size≤k) ⟨B2.os,B2.tape,B2.output,B2.size,fun i hi hn=>B2.block i (by omega)⟩ (fun k hk h=>by omega)).ch (P:=fun _=>False) sA (fun _ _=>id)
   ·rw[List.drop_zero];show ByteArray.empty.size+ByteArray.empty.size+_≤_;have:ByteArray.empty.size=0:=rfl;omega
  have HI0:Hid _:=I0;clear p2 f2 t2 b2 hown2 aaH Y2 B2 I0;generalize hbb:w2.heap.size=bb at*;go_wp2_with fail;go_loopw [9,10,11,13] (fun p ok q i wr=>∃k:Nat,k≤ops.length∧∃X Y:PX,p= .pointer (some ⟨X.pb,0,none⟩)∧ok= .bool true∧q= .pointer (some ⟨Y.pb,0,none⟩)∧i= .int .i64 (k:Int)∧H9 w wr bb X Y (eB (ops.drop k))) (fun _ _ _ i _=>ops.length-(intOf i).toNat)
  case atStart=>exact⟨0,dx _,_,_,rfl,rfl,rfl,rfl,HI0.o⟩
  case round=>
   clear HI0 wz HB1;obtain⟨k,hk,X,Y,rfl,rfl,rfl,rfl,I⟩:=hrel;by_cases hlt:k<ops.length
   ·have ik:(k:Int)<(ops.length:Int):=by omega
    have vk:IntKind.i64.wrap ((k:Int)+1)=(k:Int)+1:=bD _ (by omega);obtain⟨o,ho⟩:∃o,ops[k]? =some o:=⟨_,eG hlt⟩;obtain⟨g,off,had,hg,hrg⟩:=HRD.o k o ho;subst had;have hst:=LD ho;have ab7:wr.rangeAt g (off+k*6) o.v:=Fh (I.iB.block g hg) hrg;have HI:Hid _:=I;have uF:Hid _:=ab7;have HST:Hid _:=hst;clear I hrg ab7 hst ho;go_wp2_with (first|(refine nN rfl 59 (.tmp 56) rfl g (off+k*6) rfl o.v _ uF.o underlying59 rfl XC ?_)|(refine bK _ rfl 59 (.tmp 14) (.tmp 57) rfl wr.heap.size [.int .i64 0,.int .i64 0,.int .i64 0,.int .i64 0,.string ByteArray.empty,.slice none 0 0] o.v rfl _ rfl rfl 59 (bV _ _) rfl XC o.one ?_));intro y1 g1 k1 z1;have S1:Sm wr y1:=BX ((Ch.refl _ _).alloc _) k1 (bN _);have e0:y1.cell? ⟨wr.heap.size,0,none⟩=some (.int .i64 o.K):=(bG _ _ _ _ _ _ g1).trans rfl;have nZ:Hid _:=g1;have HI1:Hid _:=HI.o.sm S1;clear g1 k1 z1 S1;by_cases k6:o.K=6
    ·rw[k6]at e0;have HI2:Hid (H9 w y1 bb Y X (eB (ops.drop (k+1)))):=(HI1.o.less (by have:=HST.o;omega)).swap;go_wp2_with fail;refine(l9 bb _ _ HI2.o.bk).mono ?_;rintro e w9 ⟨rfl,hw9⟩;have aaK:=hw9.symm;subst aaK;go_wp2_with fail;go_roundw
     case rel=>exact⟨k+1,by omega,Y,X,by first|rfl|rw[HPB.o],rfl,rfl,by go_num,HI2.o⟩
     case measure=>simp[intOf];omega
    ·have b6:(o.K==6)=false:=by simp[k6]
     by_cases k7:o.K≤6
     ·have TH:Hid _:=k6;clear k6;go_wp2_with (refine fC rfl 59 (.tmp 14) rfl wr.heap.size rfl 59 _ (0,0) _ nZ.o underlying59 rfl XC ?_);refine(HI1.o.step hw2 o k7 TH.o (by have:=HST.o;omega) _).mono ?_;rintro e w3 ⟨rfl,X',adp,I3⟩;have HI2:Hid (H9 w w3 bb X' Y (eB (ops.drop (k+1)))):=I3.less (by have:=HST.o;omega);have HPB:Hid _:=adp;clear I3 adp;go_wp2_with fail;refine(l9 bb _ _ HI2.o.bk).mono ?_;rintro e w9 ⟨rfl,hw9⟩;have aaK:=hw9.symm;subst aaK;go_wp2_with fail;go_roundw
      case rel=>exact⟨k+1,by omega,X',Y,by first|rfl|rw[HPB.o],rfl,rfl,by go_num,HI2.o⟩
      case measure=>simp[intOf];omega
     ·have b7:decide (o.K≤6)=false:=by simp;omega
      have HI2:Hid (H9 w y1 bb X Y (eB (ops.drop (k+1)))):=HI1.o.less (by have:=HST.o;omega);go_wp2_with fail;refine(l9 bb _ _ HI2.o.bk).mono ?_;rintro e w9 ⟨rfl,hw9⟩;have aaK:=hw9.symm;subst aaK;go_wp2_with fail;go_roundw
      case rel=>exact⟨k+1,by omega,X,Y,by first|rfl|rw[HPB.o],rfl,rfl,by go_num,HI2.o⟩
      case measure=>simp[intOf];omega
   ·have ik:decide ((k:Int)<(ops.length:Int))=false:=by simp;omega
    have HI:Hid _:=I;clear I;go_wp2_with fail;refine(HI.o.x.pr.all HI.o.x.hr HI.o.x.hc).mono ?_;rintro e w3 ⟨rfl,s3⟩;have HI3:Hid _:=HI.o.sm s3;clear s3;go_wp2_with fail;refine(HI3.o.y.pr.all HI3.o.y.hr HI3.o.y.hc).mono ?_;rintro e w4 ⟨rfl,s4⟩;have HI4:Hid _:=HI3.o.sm s4;clear s4;go_wp2_with fail;go_ret;exact⟨rfl,HI4.o.iB⟩
 ·have l1:=MP a b w hin;clear hin;go_enter func8,ntmps8;go_wp2_with (go_at_call 9;refine l1.mono ?_;rintro e w1 ⟨rfl,hw1⟩;have YA:=hw1.symm;subst YA);go_ret;exact⟨rfl,dU _ _⟩
instance:Inhabited H8:=⟨⟨0,0,0,0,ByteArray.empty,none,0,0⟩⟩
theorem six{α:Type}{l:List α}(h:l.length=6):∃a b c d e f,l=[a,b,c,d,e,f]:=by
 match l,h with
 | [a,b,c,d,e,f],_=>exact⟨_,_,_,_,_,_,rfl⟩
section
variable {H:Type} {enc:TypeId × Value→H} {W:World} {base:Nat} {sp:Nat→Bool} {held:Bool}
theorem acn{fuel:Nat}{cs:List Value}{x:DataW H × List MemPlace}(h:DataW.trod enc prog W base sp held fuel 59 cs=some x):∃o:H8,cs=o.v∧o.s.size+1≤Rows.uptoBulk x.1:=by
 obtain⟨xs,k,hk,hxy,hcl,hxl,hf⟩:=DataW.trod_struct underlying59 h;have hl6:cs.length=6:=hcl.trans (by kernel_rfl);have c3:prog.cellsOf 3=1:=by kernel_rfl
 have c9:prog.cellsOf 9=1:=by kernel_rfl
 have c39:prog.cellsOf 39=1:=by kernel_rfl
 obtain⟨v0,v1,v2,v3,v4,v5,rfl⟩:=six hl6;obtain⟨y0,y1,y2,y3,y4,y5,rfl⟩:=six hxl;clear hcl hl6 hxl;have g0:DataW.trod enc prog W base sp held k 3 [v0]=some y0:=by have g:=hf 0 _ rfl;simpa[c3,c9,c39]using g
 have g1:DataW.trod enc prog W base sp held k 3 [v1]=some y1:=by have g:=hf 1 _ rfl;simpa[c3,c9,c39]using g
 have g2:DataW.trod enc prog W base sp held k 3 [v2]=some y2:=by have g:=hf 2 _ rfl;simpa[c3,c9,c39]using g
 have g3:DataW.trod enc prog W base sp held k 3 [v3]=some y3:=by have g:=hf 3 _ rfl;simpa[c3,c9,c39]using g
 have g4:DataW.trod enc prog W base sp held k 9 [v4]=some y4:=by have g:=hf 4 _ rfl;simpa[c3,c9,c39]using g
 have g5:DataW.trod enc prog W base sp held k 39 [v5]=some y5:=by have g:=hf 5 _ rfl;simpa[c3,c9,c39]using g
 obtain⟨n0,e0,_,_⟩:=DataW.trod_int underlying3 g0;obtain⟨n1,e1,_,_⟩:=DataW.trod_int underlying3 g1;obtain⟨n2,e2,_,_⟩:=DataW.trod_int underlying3 g2;obtain⟨n3,e3,_,_⟩:=DataW.trod_int underlying3 g3;obtain⟨s,e4,ey4,_⟩:=DataW.trod_string underlying9 g4;have hs:∃la ln lc,v5= .slice la ln lc:=by
  rcases DataW.trod_slice underlying39 g5 with⟨e5,_⟩|⟨a,len,cap,_,_,_,_,e5,_⟩
  ·exact⟨none,0,0,by simpa using e5⟩
  ·exact⟨some a,len,cap,by simpa using e5⟩
 obtain⟨la,ln,lc,rfl⟩:=hs;refine⟨⟨n0,n1,n2,n3,s,la,ln,lc⟩,?_,?_⟩
 ·simp only[List.cons.injEq,and_true]at e0 e1 e2 e3 e4;rw[e0,e1,e2,e3,e4];rfl
 ·have hb:Rows.uptoBulk y4.1=s.size+1:=by rw[ey4];simp only[Rows.uptoBulk,Array.length_toList];rfl
  rw[hxy];simp only[List.map_cons,List.map_nil,Rows.uptoBulk,Rows.uptoBulkAll];show s.size+1≤_;omega
theorem aan(D:Nat→DataW H)(q:Nat→H8):∀l:List Nat,(∀i∈l,(q i).s.size+1≤Rows.uptoBulk (D i))→l.length+eB (l.map q)≤Rows.uptoBulkAll (l.map D):=by
 intro l;induction l with
 |nil=>intro _;simp[eB,Rows.uptoBulkAll]
 |cons i l ih=>intro h;have h1:=h i (by simp);have h2:=ih (fun j hj=>h j (by simp[hj]));simp only[List.map_cons,fE,Rows.uptoBulkAll,eB,List.sum_cons]at*;omega
theorem aaO{fuel:Nat}{cs:List Value}{x:DataW H × List MemPlace}(h:DataW.trod enc prog W base sp held fuel 22 cs=some x):cs=[.slice none 0 0]∨∃(a:Addr) (cap:Nat) (ops:List H8),cs=[.slice (some a) ops.length cap]∧(∀i o,ops[i]? =some o→∀j v,o.v[j]? =some v→W.cell? (a.add (i*6+j))=some v)∧ops.length+eB ops≤Rows.uptoBulk x.1:=by
 rcases Go.Deep.open_slice underlying22 h with⟨h0,_⟩|⟨a,len,cap,m,n,D,Pl,rfl,hb,hl,hm,hmm,rfl,hx⟩
 ·exact Or.inl h0
 right;have hlm:len≤m:=by rw[hmm];split<;>omega
 have ce:prog.cellsOf 59=6:=by kernel_rfl
 have each:∀i,i<m→∃o:H8,(∀j v,o.v[j]? =some v→W.cell? (a.add (i*6+j))=some v)∧o.s.size+1≤Rows.uptoBulk (D i):=by
  intro i hi;obtain⟨cs',h1,h2⟩:=hx i hi;rw[ce]at h1;obtain⟨_,hlen,hcell⟩:=World.cells?_some h1;obtain⟨o,rfl,hbk⟩:=acn h2;refine⟨o,fun j v hv=>?_,hbk⟩;have hj:j<6:=by have:=(gJ.1 hv).1;rw[hlen]at this;exact this
  have:=hcell j hj;rw[Go.Deep.add_add]at this;rw[this,hv]
 obtain⟨q,hq⟩:=Go.Deep.choose_lt each;refine⟨a,cap,(List.range len).map q,by simp,fun i o ho=>?_,?_⟩
 ·have hi:i<len:=by have:=(gJ.1 ho).1;simpa using this
  rw[pW,List.getElem?_range hi]at ho;simp only[Option.map_some,xW]at ho;subst ho;exact(hq i (by omega)).1
 ·have:=aan D q (List.range len) (fun i hi=>(hq i (by have:=List.mem_range.1 hi;omega)).2);simp only[List.length_map,List.length_range]at this ⊢;simp only[Rows.uptoBulk];omega
end
theorem TY(a b:Int)(ops:List H8)(ad:Option Addr)(cap:Nat)(w:World)(htb:zm w)(hn:ops.length≤1048576)(hsz:eB ops≤1048576)(hrd:∀i o,ops[i]? =some o→∃g off,ad=some ⟨g,off,none⟩∧g<w.heap.size∧w.rangeAt g (off+i*6) o.v):
 Calls prog 3 #[.int .i64 a,.int .i64 b,.slice ad ops.length cap] w fun e w'=>e= .returned (.bool true)∧Below w.heap.size w w':=by
 have l1:=KS a b ops ad cap w htb hn hsz hrd;clear htb hrd;go_enter func3,ntmps3;go_wp2_with fail;refine l1.mono ?_;rintro e w1 ⟨rfl,b1⟩;have HB:Hid _:=b1;clear b1 l1;go_wp2_with fail;go_ret;exact⟨rfl,HB.o⟩
theorem xk{a:Assume}{stops:Option Stop.Interp}{C:Checked}{os:Os}{f:FuncId}{r:Reach}{okInput:Program→World→Reach→Nat→FuncId→Input→Prop}{Pre:World→Array Value→Prop}{Post:World→Array Value→Value→World→Prop}{always:Machine→Prop}(h:ReturnsInOpen a stops C os f r okInput Pre Post (aloneAtReturn C.prog) always):ReturnsInOpen a stops C os f r okInput Pre Post (leavingAtReturn C.prog) always:=by
 obtain⟨g0,g1,g2,g3,all⟩:=h;refine⟨g0,g1,g2,g3,fun w tape i hf=>?_⟩;obtain⟨n,v,w',hn,hc,hr,hp,⟨j,last,hj,hs,hq,hh,he⟩,ha⟩:=all w tape i hf;exact⟨n,v,w',hn,hc,hr,hp,⟨j,last,hj,hs,hh,onlyLeaving_of_quiet hq,he⟩,ha⟩
theorem zf{c:OpenClaim}(hstart:c.start= .entering)(hst:c.stops=[])(hl:c.leaving=true)(hw:c.wf s=true)(h:({c with leaving:=false}:OpenClaim).holds p s):c.holds p s:=by
 obtain⟨_,a2,a3,a4,a5,a6,a7,a8,f,fn,h'⟩:=h;refine⟨hw,a2,a3,a4,a5,a6,a7,a8,f,fn,?_⟩
 repeat (refine⟨h'.1,?_⟩;replace h':=h'.2)
 obtain⟨L,hL,all⟩:=h';refine⟨L,hL,fun os st hq H enc inj=>?_⟩;have z:=all os st hq H enc inj;unfold OpenClaim.form at z ⊢;simp only[hstart,hst]at z ⊢;intro F;have e2:c.atReturn p.checked.prog=leavingAtReturn p.checked.prog:=by unfold OpenClaim.atReturn;rw[hl]
 rw[e2];exact xk (z F)
theorem wP(Lk:Looks){c:OpenClaim}(kinds:List LaidKind)(tests:Bool)(har:Bool × String)(lk:Bool)(hc:c.holds p s)(hw:c.wfByText s=true)(htie:c.laidByTextAt Lk p kinds tests)(hst:c.start= .entering)(hnb:c.noBlocks=false∧c.again=false)(hm:p.checked.prog.mainIs=some (har.1,har.2.toList))(hn:(!har.1&&har.2.isEmpty&& !lk)=false)(hl:∀f fn,p.checked.prog.funcNamed c.func=some f→p.checked.prog.funcs[f]? =some fn→lk=p.checked.prog.looks []∧∀(j:Nat) t,fn.params[j]? =some t→p.checked.prog.wantsStandIn t=false)(hg:true=c.goesBy p.checked.prog):
 Claim7.holds p (.plain s) {stood:={row:=c,standIns:=[],harness:=har,looks:=lk},kinds:=[],alts:=[],goes:=true,laidByText:=true,laidKinds:=kinds,laidTests:=tests,laidLooks:=Lk}:=
 ⟨Claim7.tied_new_at Lk kinds tests (Claim7.new_of_sixth hc har lk hst hnb hm (by simpa[Claim7.isSixth]using hn) hl) hw,fun D hD=>(by cases hD),htie,(fun h=>(by cases h)),hg⟩
end Go.Proofs.YtheibfffilomcaaGreatDoor
