import Derived.Test.YtheibfffilomcabGreatDoorR4U
import Derived.Test.YtheibfffilomcabGreatDoorZdU
import Derived.Lib.UnsafeStr
import Derived.BigRegion
import Derived.Test.YtheibfffilomcabGreatDoorZlU
import Derived.Test.YtheibfffilomcabGreatDoorWdU
import Derived.Test.YtheibfffilomcabGreatDoorS16U
import Derived.Conc.CompanyDraw
set_option linter.all false
set_option maxRecDepth 100000
set_option maxHeartbeats 4000000
namespace Go.Proofs.YtheibfffilomcabGreatDoor
open Go.RowKit Go.Proofs.Tryz Go.Ren Go.Conc Go.ConcN Go.Conc.Lib Go.ConcR.Gen Go.ConcN.Gen
variable {w:World} {s:TS} {aa fb b:Nat} {x:agR}
theorem Ob{t:List Int}(h:∀i∈t,0≤i∧i<256):∃l:List UInt8,t=l.map (fun c=>(c.toNat:Int)):=by
 induction t with
 |nil=>exact⟨[],rfl⟩
 |cons a t ih=>
  obtain⟨l,rfl⟩:=ih (fun i hi=>h i (List.mem_cons_of_mem _ hi));have ha:=h a (List.mem_cons_self ..);refine⟨UInt8.ofNat a.toNat::l,?_⟩;rw[List.map_cons]
  congr 1
  rw[UInt8.toNat_ofNat_of_lt' (by show a.toNat<256;omega)];omega
def uo (wb:Nat) (t:List Int) (w:World) (e:Ending) (w':World):Prop:=(∃U:ByteArray,e= .returned (.string U)∧bl U=t)∧Below wb w w'
theorem IV(wb tb:Nat)(p:Value)(q:fO)(w:World)(h:w.heap[wb]? =some (.cells (DK tb p (.slice none 0 0) q).toArray 112 (0,0))):
 Calls prog 54 #[.pointer (some ⟨wb,1,none⟩)] w (uo wb [] w):=by
 have hUS:∀(W:World) (q:Option Addr),(Builtin.unsafeString_ #[165,3] 9 #[.pointer q,.int .i64 0]).run prog W= .ok (.string .empty) W:=fun W q=>Lib.run_unsafeString_none W _ _ _ q;have c1:w.drew.cell? ⟨wb,2,none⟩=some (.slice none 0 0):=(dJ w.drew _ _ _ _ _ h).trans rfl;have hSD:(Builtin.unsafeSliceData_ #[108] 165 #[.slice none 0 0]).run prog w.drew= .ok (.pointer none) w.drew:=rfl;clear h;go_enter func54,ntmps54;go_wp2;go_region
 all_goals (go_wp2;go_ret;exact⟨⟨_,rfl,rfl⟩,Below.drew (dF wb w)⟩)
theorem Ah(wb tb g:Nat)(p:Value)(q:fO)(cur:Array Value)(w:World)(hg:w.heap[g]? =some (.cells cur 5 (0,0)))(h:w.heap[wb]? =some (.cells (DK tb p (.slice (some ⟨g,0,none⟩) 0 0) q).toArray 112 (0,0))):
 Calls prog 54 #[.pointer (some ⟨wb,1,none⟩)] w (uo wb [] w):=by
 have hUS:∀(W:World) (q:Option Addr),(Builtin.unsafeString_ #[165,3] 9 #[.pointer q,.int .i64 0]).run prog W= .ok (.string .empty) W:=fun W q=>Lib.run_unsafeString_none W _ _ _ q;have hlt:=bM h;have hBw:wb≤w.heap.size:=iH hlt;have c1:w.drew.cell? ⟨wb,2,none⟩=some (.slice (some ⟨g,0,none⟩) 0 0):=(dJ w.drew _ _ _ _ _ h).trans rfl;have hSD:(Builtin.unsafeSliceData_ #[108] 165 #[.slice (some ⟨g,0,none⟩) 0 0]).run prog w.drew= .ok (.pointer (some ⟨w.drew.heap.size,0,none⟩)) (w.drew.alloc (.view ⟨g,0,none⟩ 5)):=
  Lib.run_unsafeSliceData_zero w.drew _ _ 5 (by kernel_rfl) ⟨g,0,none⟩ 0 (5,cur.size) (by have hg':w.drew.heap[g]? =some (.cells cur 5 (0,0)):=hg;simp[World.shape?,hg'])
 have c2:(w.drew.alloc (.view ⟨g,0,none⟩ 5)).cell? ⟨wb,2,none⟩=some (.slice (some ⟨g,0,none⟩) 0 0):=by have e:(w.drew.alloc (.view ⟨g,0,none⟩ 5)).heap[wb]? =_:=(Lib.alloc_old w.drew _ wb hlt).trans h;exact(dJ _ _ _ _ _ _ e).trans rfl
 have c3:(w.alloc (.view ⟨g,0,none⟩ 5)).drew.cell? ⟨wb,2,none⟩=some (.slice (some ⟨g,0,none⟩) 0 0):=c2;have c0:w.cell? ⟨wb,2,none⟩=some (.slice (some ⟨g,0,none⟩) 0 0):=c1;clear h hg hlt;go_enter func54,ntmps54;go_wp2;go_region
 all_goals (go_wp2;go_ret;exact⟨⟨_,rfl,rfl⟩,(Below.drew (dF wb w)).alloc hBw _⟩)
theorem FV(wb tb g cap:Nat)(p:Value)(q:fO)(w:World)(hc0:cap≠0)(h:w.heap[wb]? =some (.cells (DK tb p (.slice (some ⟨g,0,none⟩) 0 cap) q).toArray 112 (0,0))):
 Calls prog 54 #[.pointer (some ⟨wb,1,none⟩)] w (uo wb [] w):=by
 have hUS:∀(W:World) (q:Option Addr),(Builtin.unsafeString_ #[165,3] 9 #[.pointer q,.int .i64 0]).run prog W= .ok (.string .empty) W:=fun W q=>Lib.run_unsafeString_none W _ _ _ q;have c1:w.drew.cell? ⟨wb,2,none⟩=some (.slice (some ⟨g,0,none⟩) 0 cap):=(dJ w.drew _ _ _ _ _ h).trans rfl;have hSD:(Builtin.unsafeSliceData_ #[108] 165 #[.slice (some ⟨g,0,none⟩) 0 cap]).run prog w.drew= .ok (.pointer (some ⟨g,0,none⟩)) w.drew:=
  Lib.run_unsafeSliceData_row _ _ _ _ _ _ hc0
 clear h hc0;go_enter func54,ntmps54;go_wp2;go_region
 all_goals (go_wp2;go_ret;exact⟨⟨_,rfl,rfl⟩,Below.drew (dF wb w)⟩)
theorem IW(wb tb g cap:Nat)(p:Value)(q:fO)(cur:Array Value)(l:List UInt8)(h0:l≠[])(w:World)(hbg:wb+1≤g)(hg:w.heap[g]? =some (.cells cur 5 (0,0)))(hnc:l.length≤cap)(hcm:cap≤maxLen)(hcs:cur.size=cap*1)(hcell:∀j (x:UInt8),l[j]? =some x→w.cell? ((⟨g,0,none⟩:Addr).add j)=some (.int .u8 x.toNat))(h:w.heap[wb]? =some (.cells (DK tb p (.slice (some ⟨g,0,none⟩) l.length cap) q).toArray 112 (0,0))):
 Calls prog 54 #[.pointer (some ⟨wb,1,none⟩)] w (uo wb (l.map (fun c=>(c.toNat:Int))) w):=by
 have hl0:l.length≠0:=by simpa using h0
 have c1:w.drew.cell? ⟨wb,2,none⟩=some (.slice (some ⟨g,0,none⟩) l.length cap):=(dJ w.drew _ _ _ _ _ h).trans rfl;have hSD:(Builtin.unsafeSliceData_ #[108] 165 #[.slice (some ⟨g,0,none⟩) l.length cap]).run prog w.drew= .ok (.pointer (some ⟨g,0,none⟩)) w.drew:=
  Lib.run_unsafeSliceData_row _ _ _ _ _ _ (by omega)
 have hUS:(Builtin.unsafeString_ #[165,3] 9 #[.pointer (some ⟨g,0,none⟩),.int .i64 l.length]).run prog w.drew= .ok (.string ⟨l.toArray⟩) (w.drew.freeze ⟨g,0,none⟩ l.length):=
  Lib.run_unsafeString_row w.drew 165 3 9 5 (by kernel_rfl) (by kernel_rfl) g cur.size (by have hg':w.drew.heap[g]? =some (.cells cur 5 (0,0)):=hg;simp[World.shape?,hg']) l h0 (by omega) (by unfold maxLen at hcm;omega) hcell
 have acj:wb≤g:=by omega
 have HL:Hid (bl ⟨l.toArray⟩=l.map (fun c=>(c.toNat:Int))):=by show _=_;unfold bl;simp
 clear h hg hcell hnc hcm hcs h0 hl0 hbg;go_enter func54,ntmps54;go_wp2;go_region
 all_goals (go_wp2;go_ret;exact⟨⟨_,rfl,HL.o⟩,Lib.below_freeze (Below.drew (dF wb w)) (p:=⟨g,0,none⟩) acj _⟩)
theorem IU(wb tb:Nat)(x:WS)(w:World)(h:eB w wb tb x):Calls prog 54 #[.pointer (some ⟨wb,1,none⟩)] w (uo wb x.tx w):=by
 obtain⟨p,v,h1,_,h3⟩:=h.ex;obtain⟨l,hl⟩:=Ob h.TI;have h3':=h3;rcases h3.2 with⟨rfl,e⟩|⟨g,cap,cur,rfl,hbg,hg,hnc,hcm,hcs,_⟩
 ·have:x.tx=[]:=Jm e;rw[this];exact IV wb tb p x.pen w h1
 ·by_cases h0:l=[]
  ·have hx:x.tx=[]:=by rw[hl,h0];rfl
   rw[hx]at h1 ⊢;by_cases hc0:cap=0
   ·subst hc0;exact Ah wb tb g p x.pen cur w hg h1
   ·exact FV wb tb g cap p x.pen w hc0 h1
  ·have hlen:x.tx.length=l.length:=by rw[hl];simp
   rw[hlen]at h1 hnc;rw[hl];refine IW wb tb g cap p x.pen cur l h0 w hbg hg hnc hcm hcs ?_ h1;intro j y hy;have h4:iL w (wb+1) (.slice (some ⟨g,0,none⟩) x.tx.length cap) x.tx:=h3';exact World.ownsRow.cells (g:=g) h4 (by rfl) j (.int .u8 y.toNat) (by rw[hl];simp[hy])
theorem bX.parts{r:List aC}(h:bX r):∀c∈r,c.part=2∨c.Ok:=by
 induction h with
 |nil=>intro c hc;cases hc
 |one c r hp hw hs h ih=>
  intro d hd;rcases di.1 hd with rfl|hd
  ·exact .inr hs
  ·exact ih d hd
 |two c r hp hw hs h ih=>
  intro d hd;rcases di.1 hd with rfl|hd
  ·exact .inr hs
  ·rcases di.1 hd with rfl|hd
   ·exact .inl rfl
   ·exact ih d hd
theorem vY(hI:s.Inv)(n:Nat):(s.aj n).length=s.rows:=by
 unfold TS.aj;split
 ·exact hI.l0
 ·exact hI.l1
theorem tQ(hF:s.Fit)(n:Nat):GoodS s.aa (s.aj n):=by
 unfold TS.aj;split
 ·exact hF.g0
 ·exact hF.g1
theorem Cm(s:TS)(n i k:Nat):s.cellAt n i k=((s.aj n).getD i []).getD k aQ:=rfl
theorem Ov{α:Type}(l:List α)(k:Nat)(d:α)(h:k<l.length):l.getD k d∈l:=by rw[List.getD_eq_getElem?_getD,gK h];exact Jr h
theorem pF.of(hI:s.Inv)(hF:s.Fit):pF s:=by
 refine⟨fun n i k hi hk=>?_,fun n i k hi hk hp=>?_⟩
 ·have g:=(tQ hF n).getD (i:=i) (by rw[vY hI];exact hi);rw[Cm];exact g.1.parts _ (Ov _ _ _ (by rw[g.2];exact hk))
 ·have g:=(tQ hF n).getD (i:=i) (by rw[vY hI];exact hi);rcases Nat.eq_zero_or_pos k with rfl|h
  ·exact absurd hp (g.1.head aQ (by decide))
  ·exact h
theorem sP.of(hI:s.Inv)(hF:s.Fit):sP s:=by
 refine⟨pF.of hI hF,fun n _ q hq=>?_,fun n _=>vY hI n,fun n _=>?_⟩
 ·have g:=tQ hF n q hq;exact⟨g.2,g.1.parts⟩
 ·unfold TS.dP;split
  ·exact⟨hI.VV,hI.VU,hF.v0⟩
  ·exact⟨hI.VX,hI.VW,hF.v1⟩
theorem DW.of(hI:s.Inv)(hF:s.Fit):DW s:=⟨⟨⟨hI.row0,hI.iT⟩,⟨hI.fU,hI.gz⟩,⟨hF.f,hF.sc,hF.u,hF.p,hF.w⟩⟩,fun e=>(hF.o e).1⟩
theorem Fv(s:TS)(hI:s.Inv)(hO:sP s):(WS.zero.ek s).tx.length≤40020:=by
 have a0:WS.zero.tx.length=0:=rfl;have a1:∀y:WS,(y.screen s.s0 s.v0).tx.length≤y.tx.length+20000:=fun y=>pY y s hI hO 0 (by omega);have a2:∀y:WS,(y.screen s.s1 s.v1).tx.length≤y.tx.length+20000:=fun y=>pY y s hI hO 1 (by omega);have b1:=a1 WS.zero;have b2:=a2 ((WS.zero.screen s.s0 s.v0).seq [63,52,55,104]);have c1:=iJ (WS.zero.screen s.s0 s.v0) [63,52,55,104];have c2:=iJ (((WS.zero.screen s.s0 s.v0).seq [63,52,55,104]).screen s.s1 s.v1) [63,52,55,108];simp only[fB,dH]at c1 c2;unfold WS.ek WS.second;split
 ·omega
 ·split
  ·omega
  ·omega
theorem P9(x:WS)(s:TS)(hI:s.Inv):(x.tabs s).tx.length≤x.tx.length+300:=by
 unfold WS.tabs;split
 ·omega
 ·have h:=BN s.tabs (x.seq [51,103]) 0;have c1:=iJ x [51,103];simp only[fB,dH]at c1;have:=hI.lt;have:=hI.c2;omega
theorem GU(x:WS)(s:TS):(x.jq s).tx.length≤x.tx.length+80:=by
 unfold WS.jq;split
 ·omega
 ·exact tY _ _ _ _
theorem U9:(prog.info? 112).map (·.size)=some 8:=by kernel_rfl
theorem KU(L:Lay)(s:TS)(hI:s.Inv)(hF:s.Fit)(w:World)(ht:a_ w L s):
 Calls prog 20 #[.pointer (some ⟨L.tb,0,none⟩)] w fun e w'=>(∃U:ByteArray,e= .returned (.string U)∧bl U=Ba s)∧Below w.heap.size w w':=by
 have HT:Hid _:=ht;have HI:Hid _:=hI;have HO:Hid (sP s):=sP.of hI hF;have HC:Hid (DW s):=DW.of hI hF;clear ht hI hF;go_enter func20,ntmps20;go_wp2_with (refine bY _ rfl 112 (.tmp 3) (.tmp 5) rfl w.heap.size [.pointer none,.pointer none,.slice none 0 0,.bool false,.bool false,.bool false,.int .i64 0,.int .i64 0] (DK L.tb (.pointer none) (.slice none 0 0) Ab) rfl _ rfl rfl 112 (bJ _ _) rfl U9 (by intro v hv;simp only[DK,di,eU,eX]at hv;rcases hv with rfl|rfl|rfl|rfl|rfl|rfl|rfl|rfl<;>rfl) ?_);intro y1 g1 k1 z1;obtain⟨wb,hwb⟩:∃wb,wb=w.heap.size:=⟨_,rfl⟩;rw[←hwb];rw[←hwb]at g1;have B1:Below wb w y1:=by rw[hwb];exact((dF w.heap.size w).alloc (bE _) _).trans (k1.below (by simp) (fun k hk e=>by omega))
 have X1:Wr y1 wb L s WS.zero:=by refine⟨eB.of (p:=.pointer none) (v:=.slice none 0 0) g1 (.inl rfl) ⟨by simp,.inl ⟨rfl,rfl⟩⟩ (fun i hi=>by cases hi),HT.o.kept (P:=fun k=>wb≤k) ⟨B1.os,B1.tape,B1.output,B1.size,fun i _ hn=>B1.block i (by omega)⟩ (fun k hk hn=>by have:=HT.o.jv hk;omega),fun k hk=>by have:=HT.o.jv hk;omega⟩
 have si:Hid _:=X1;have HB1:Hid _:=B1;have HWB:Hid _:=hwb;clear g1 k1 z1 B1 X1 hwb;have n1:=Fv s HI.o HO.o;have n2:=P9 (WS.zero.ek s) s HI.o;have n3:=Ik ((WS.zero.ek s).tabs s) s;have n4:=GU (((WS.zero.ek s).tabs s).region s) s;have HN:Hid ((WS.zero.ek s).tx.length≤100000∧((WS.zero.ek s).tabs s).tx.length≤200000∧(((WS.zero.ek s).tabs s).region s).tx.length≤300000∧((((WS.zero.ek s).tabs s).region s).jq s).tx.length≤300000):=⟨by omega,by omega,by omega,by omega⟩;clear n1 n2 n3 n4;have l1:=Ir wb L s HI.o HO.o WS.zero y1 si.o (by show 0≤1000;omega);go_wp2_with fail;refine l1.mono ?_;rintro e y2 ⟨rfl,h2,k2⟩;have uk:Hid (Wr y2 wb L s (WS.zero.ek s)):=si.o.step k2 h2;have HB2:Hid (Below wb w y2):=HB1.o.trans k2.b;clear l1 h2 k2 si HB1;have l2:=RV wb L s HI.o _ y2 uk.o HN.o.1;go_wp2_with fail;refine l2.mono ?_;rintro e y3 ⟨rfl,h3,k3⟩;have sj:Hid (Wr y3 wb L s ((WS.zero.ek s).tabs s)):=uk.o.step k3 h3;have HB3:Hid (Below wb w y3):=HB2.o.trans k3.b;clear l2 h3 k3 uk HB2;have l3:=LW wb L s HI.o _ y3 sj.o HN.o.2.1;go_wp2_with fail;refine l3.mono ?_;rintro e y4 ⟨rfl,h4,k4⟩;have DI:Hid (Wr y4 wb L s (((WS.zero.ek s).tabs s).region s)):=sj.o.step k4 h4;have HB4:Hid (Below wb w y4):=HB3.o.trans k4.b;clear l3 h4 k4 sj HB3;have l4:=KW wb L s HI.o HO.o HC.o _ y4 DI.o HN.o.2.2.1;go_wp2_with fail;refine l4.mono ?_;rintro e y5 ⟨rfl,h5,k5⟩;have Sd:Hid (Wr y5 wb L s ((((WS.zero.ek s).tabs s).region s).jq s)):=DI.o.step k5 h5;have HB5:Hid (Below wb w y5):=HB4.o.trans k5.b;clear l4 h5 k5 DI HB4;have l5:=FL wb L s _ y5 Sd.o HN.o.2.2.2;go_wp2_with fail;refine l5.mono ?_;rintro e y6 ⟨rfl,h6,k6⟩;have HX6:Hid _:=h6;have HB6:Hid (Below wb w y6):=HB5.o.trans k6.b;clear l5 h6 k6 Sd HB5;have l6:=IU wb L.tb _ y6 HX6.o;go_wp2_with fail;refine l6.mono ?_;rintro e y7 ⟨⟨U,rfl,hU⟩,b7⟩;have HU:Hid _:=hU;have HB7:Hid (Below w.heap.size w y7):=by have:=HB6.o.trans b7;rw[HWB.o]at this;exact this
 clear l6 hU b7 HX6 HB6;go_wp2_with fail;go_ret;exact⟨⟨U,rfl,HU.o⟩,HB7.o⟩
theorem yN(fb:Nat)(L:Lay)(x:agR)(hI:x.t.Inv)(hF:x.t.Fit)(w:World)(h:wU w fb L x):
 Calls prog 9 #[.pointer (some ⟨fb,0,none⟩)] w fun e w'=>(∃U:ByteArray,e= .returned (.string U)∧bl U=Ba x.t)∧Below w.heap.size w w':=by
 have hpt:=h.pt;have l1:=KU L x.t hI hF w h.te;clear h hI hF;go_enter func9,ntmps9;go_wp2_with fail;refine l1.mono ?_;rintro e y7 ⟨⟨U,rfl,hU⟩,b7⟩;have HU:Hid _:=hU;have HB7:Hid _:=b7;clear l1 hU b7;go_wp2_with fail;go_ret;exact⟨⟨U,rfl,HU.o⟩,HB7.o⟩
open Go.ConcR (KK wgBlock WgAt stA smA rd wr Payload Aside2 DC0 ofEvent_cell)
set_option linter.unusedSimpArgs false
set_option linter.unusedVariables false
theorem uu(h:iE w)(τ:Nat→Question→Nat)(d:Nat):iE (on w τ d):=⟨h.sp,h.le,h.st⟩
theorem JM{sb:Nat}{gs:List Nat}{S:bK}(h:ShAt w sb gs aa S)(τ:Nat→Question→Nat)(d:Nat):ShAt (on w τ d) sb gs aa S:=⟨h.blk,h.len,h.row,h.nodup,h.o⟩
theorem BZ{L:Lay}(h:wU w fb L x)(τ:Nat→Question→Nat)(d:Nat):wU (on w τ d) fb L x:=
 ⟨⟨h.rd.c0,h.rd.c1,h.rd.c2,h.rd.c3,h.rd.f⟩,⟨h.ma.len,h.ma.ZR,h.ma.fr⟩,h.pt,⟨h.te.blk,JM h.te.h0 τ d,JM h.te.h1 τ d,h.te.tab,h.te.sep⟩,h.no,h.hi⟩
def fD (w:World):Prop:=∀b,b<7→∃o,w.heap[b]? =some o∧(∀ρ,lM ρ o=o)∧∀c t,o≠ .pending c t
def qR (w:World):World:={w with heap:=w.heap.extract 0 7}
theorem gm(h:fD w):(qR w).heap.size=7:=by obtain⟨o,ho,_⟩:=h 6 (by omega);have:=(kP.1 ho).1;simp[qR];omega
theorem l_(hb:b<7):(qR w).heap[b]? =w.heap[b]? :=by
 simp only[qR,Array.getElem?_extract];by_cases h:b<w.heap.size
 ·rw[aS (by omega)];simp
 ·rw[aG (by omega)];simp;omega
theorem qO(h:fD w):HR 7 id (qR w) w:=by
 have hz:=gm h;obtain⟨o6,ho6,_⟩:=h 6 (by omega);have hs:=(kP.1 ho6).1;refine⟨fun a b _ _ e=>e,fun b hb=>by rw[hz]at hb;simp only[id];omega,fun _ _=>rfl,fun b h1 h2=>by rw[hz]at h2;omega,by omega,fun ρ e b hb=>?_,fun b c t hx=>?_,rfl⟩
 ·rw[hz]at hb;rw[l_ hb];obtain⟨o,ho,h1,_⟩:=h b hb;simp[ho,h1]
 ·rcases Nat.lt_or_ge b 7 with hb|hb
  ·rw[l_ hb]at hx;obtain⟨o,ho,_,h2⟩:=h b hb;rw[ho]at hx;cases hx;exact h2 c t rfl
  ·rw[qh (by omega)]at hx;cases hx
theorem Bo(h:fD w):own 7 id (qR w)=fun _=>False:=by
 funext b;apply propext;constructor
 ·rintro⟨i,h1,h2,_⟩;rw[gm h]at h2;omega
 ·exact fun x=>x.elim
theorem P6{a x:Nat}(ha:a<7)(hb:b<7)(hx:7≤x):swap a b x=x:=by unfold swap;rw[aG (by omega),aG (by omega)]
theorem nK(h:fD w):∀τ,uq 7 τ→Go.Ren.Clean τ (qR w):=by
 rintro τ ⟨a,b,hab,rfl⟩;refine⟨fun x o hx=>?_,fun x hx=>P6 hab.1 hab.2 (by rw[gm h]at hx;exact hx)⟩;rcases Nat.lt_or_ge x 7 with hb|hb
 ·rw[l_ hb]at hx;obtain⟨o',ho,h1,_⟩:=h x hb;rw[ho]at hx;cases hx;exact h1 _
 ·rw[qh (by rw[gm h];exact hb)]at hx;cases hx
theorem zK(h:iE w):iE (qR w):=h.kept fun k hk=>l_ (by omega)
structure EK (rb cb db ib tb C n j:Nat) (rows aa:Nat) (T:ByteArray) (w:World):Prop where
 r:w.cell? ⟨rb,0,none⟩=some (.int .i64 rows)
 c:w.cell? ⟨cb,0,none⟩=some (.int .i64 aa)
 d:w.cell? ⟨db,0,none⟩=some (.slice (some ⟨C,0,none⟩) n n)
 i:w.cell? ⟨ib,0,none⟩=some (.int .i64 j)
 t:w.cell? ⟨tb,0,none⟩=some (.string T)
 g:fD w
 tabs:iE w
theorem X_{Bs:Nat→Prop}{rb cb db ib tb C n j rows:Nat}{T:ByteArray}(h7:∀b,b<7→Bs b)(hB:Bs rb∧Bs cb∧Bs db∧Bs ib∧Bs tb):Ec Bs (EK rb cb db ib tb C n j rows aa T):=by
 intro w w' hk _ _ h
 exact⟨(cell_of_block (hk _ hB.1) 0).trans h.r,(cell_of_block (hk _ hB.2.1) 0).trans h.c,(cell_of_block (hk _ hB.2.2.1) 0).trans h.d,(cell_of_block (hk _ hB.2.2.2.1) 0).trans h.i,(cell_of_block (hk _ hB.2.2.2.2) 0).trans h.t,
  fun b hb=>by obtain⟨o,ho,x⟩:=h.g b hb;exact⟨o,(hk b (h7 b hb)).trans ho,x⟩,h.tabs.kept fun k hk'=>hk k (h7 k (by omega))⟩
section
variable {main:Bool} {b:Frame} {a:Act} {kk:List Item} {cs:List Frame} {w:World} {ops:Array Oper} {i:Nat} {rest:List Nat} {o:Oper}
theorem jQ{t:TypeId}(ht:t=3∨t=9∨t=24){x:Operand}(ho:ops[i]? =some o)(hw:Region.wanted o (yielded ops a.tmps)=true)(hk:b.kind≠ .early)(hop:o.op= .load t x){ad:Addr}{v:Value}(hx:a.eval x= .pointer (some ad))(hc:w.cell? ad=some v)(hq:(prog.funcs[b.fn]?).any (·.norace)=false):
 stepG prog main (G (b.at a (.inRegion ops (i::rest)::kk)) cs) w= .go (G (b.at (a.put o.dst v) (.inRegion ops rest::kk)) cs) w #[⟨.cell ad,false,false⟩]:=by
 have hr:(execOp a.eval o).run prog w= .ok (.value v) w:=by unfold execOp;simp only[hop,hx];rcases ht with rfl|rfl|rfl<;>simp[go_sem,hc]
 have he:(execOp a.eval o).events prog w #[]= #[⟨.cell ad,false,false⟩]:=by unfold execOp;simp only[hop,hx];rcases ht with rfl|rfl|rfl<;>simp[go_sem,hc]
 rw[stepG_value ho hw hk hr];unfold listed;rw[he,Go.Conc.seen_eq hq (by simp)]
end
open Go.ConcR (KK wgBlock WgAt stA smA rd wr Payload Aside2 DC0 ofEvent_cell)
set_option linter.unusedSimpArgs false
set_option linter.unusedVariables false
structure EP where
 Wg:Nat
 C:Nat
 n:Nat
 B0:Nat
 rb:Nat
 cb:Nat
 db:Nat
 ib:Nat
 tb:Nat
 j:Nat
 rows:Nat
 aa:Nat
 T:ByteArray
 U:ByteArray
def EP.X (p:EP) (b:Nat):Prop:=b=p.ib∨b=p.tb
def EP.Bs (p:EP):Nat→Prop:=fun b=>Js p.Wg p.C p.B0 b∨p.X b
structure EP.Ok (p:EP):Prop where
 h7:7≤p.B0
 w7:7≤p.Wg
 c7:7≤p.C
 cw:p.C≠p.Wg
 r:Js p.Wg p.C p.B0 p.rb
 c:Js p.Wg p.C p.B0 p.cb
 d:Js p.Wg p.C p.B0 p.db
 hj:p.j<p.n
 n16:p.n≤16
 hr:1≤p.rows∧p.rows≤12
 hc:1≤p.aa∧p.aa≤40
 hT:p.T.size≤281474976710656
 hU:bl p.U=Ba ((agR.fresh p.rows p.aa).feed (bl p.T)).t
abbrev EP.K (p:EP):World→Prop:=EK p.rb p.cb p.db p.ib p.tb p.C p.n p.j p.rows p.aa p.T
def EP.ES (p:EP) (_:Nat→Prop) (g:Goroutine) (w:World):Prop:=
 g.status= .running∧(PayAt p.C p.n w→WgLive 47 p.Wg w→Works prog 47 p.Wg p.C p.n (yA p.C) NM 0 (p.j+1) (.string p.U) g w)
section
variable {p:EP} (h:p.Ok)
include h
theorem EP.Ok.b7(b:Nat)(hb:b<7):p.Bs b:=.inl ⟨by have:=h.h7;omega,by have:=h.w7;omega,by have:=h.c7;omega⟩
theorem EP.Ok.on:Ec p.Bs p.K:=X_ h.b7 ⟨.inl h.r,.inl h.c,.inl h.d,.inr (.inl rfl),.inr (.inr rfl)⟩
theorem EP.Ok.rely{S:Nat→Prop}{w w₁:World}(hF:p.K w)(q:RY (fun b=>p.Bs b∨S b) w w₁):p.K w₁:=h.on w w₁ (fun b hb=>q.keep b (.inl hb)) q.size q.os hF
end
def PF (fb:Nat) (x:agR) (V:World):Prop:=∃L,wU V fb L x∧iE V∧2<fb
theorem PF.on{V:World}(h:PF fb x V)(τ:Nat→Question→Nat)(d:Nat):PF fb x (Go.Ren.on V τ d):=let⟨L,h1,h2,h3⟩:=h;⟨L,BZ h1 τ d,uu h2 τ d,h3⟩
theorem PF.lt{fb:Nat}{x:agR}{V:World}(h:PF fb x V):fb<V.heap.size:=let⟨_,h1,_⟩:=h;h1.ma.lt
def Si (p:EP) (v:Value) (V:World):Prop:=∃fb,v= .pointer (some ⟨fb,0,none⟩)∧PF fb (agR.fresh p.rows p.aa) V
def Sj (p:EP) (fb:Nat) (v:Value) (V:World):Prop:=v= .tuple #[]∧PF fb ((agR.fresh p.rows p.aa).feed (bl p.T)) V
def Sl (p:EP) (v:Value) (_:World):Prop:=v= .string p.U
section
variable {p:EP} (h:p.Ok)
include h
theorem TJ{V:World}(ht:iE V)(h2:2<V.heap.size)(t:Nat→Question→Nat)(d:Nat):Calls prog 15 #[.int .i64 (p.rows:Int),.int .i64 (p.aa:Int)] (on V t d) fun e w=>∃v,e= .returned v∧Si p v w:=by refine(yC p.rows p.aa (on V t d) h.hr h.hc h2).mono ?_;rintro e w' ⟨fb,L,rfl,h3,h4,_,h6⟩;have hz:(on V t d).heap.size=V.heap.size:=rfl;exact⟨_,rfl,fb,rfl,L,h3,(uu ht t d).kept fun k hk=>h6.block k (by omega),by omega⟩
theorem TK{V:World}{fb:Nat}(hf:PF fb (agR.fresh p.rows p.aa) V)(t:Nat→Question→Nat)(d:Nat):Calls prog 16 #[.pointer (some ⟨fb,0,none⟩),.string p.T] (on V t d) fun e w=>∃v,e= .returned v∧Sj p fb v w:=by obtain⟨L,h1,h2,h3⟩:=hf;refine(yP fb L _ p.T (on V t d) (BZ h1 t d) (agR.Ok.fresh h.hr h.hc) (uu h2 t d) h3 h.hT).mono ?_;rintro e w' ⟨rfl,v,cs,L',h4⟩;exact⟨_,rfl,rfl,L',h4.f,h4.tb,h3⟩
theorem TL{V:World}{fb:Nat}(hf:PF fb ((agR.fresh p.rows p.aa).feed (bl p.T)) V)(t:Nat→Question→Nat)(d:Nat):Calls prog 9 #[.pointer (some ⟨fb,0,none⟩)] (on V t d) fun e w=>∃v,e= .returned v∧Sl p v w:=by obtain⟨L,h1,h2,h3⟩:=hf;have hok:((agR.fresh p.rows p.aa).feed (bl p.T)).Ok:=(agR.Ok.fresh h.hr h.hc).feed _ (nJ p.T);refine(yN fb L _ hok.t (vK p.rows p.aa h.hr h.hc _ (nJ p.T)) (on V t d) (BZ h1 t d)).mono ?_;rintro e w' ⟨⟨U,rfl,hU⟩,_⟩;have:U=p.U:=Ck (by rw[hU,h.hU]);subst this;exact⟨_,rfl,rfl⟩
end
open Go.ConcR (KK wgBlock WgAt stA smA rd wr Payload Aside2 DC0 ofEvent_cell)
set_option linter.unusedSimpArgs false
set_option linter.unusedVariables false
theorem Vz:mR[0]? =some {dst:=some 13,op:=.load 24 (.tmp 4),type:=24,pos:= "slate.go:119",after:=#[],guard:=none}:=rfl
theorem VA:mR[1]? =some {dst:=some 14,op:=.load 3 (.tmp 5),type:=3,pos:= "slate.go:119",after:=#[],guard:=none}:=rfl
theorem VB:mR[2]? =some {dst:=some 15,op:=.move (.tmp 6),type:=29,pos:= "slate.go:119",after:=#[],guard:=none}:=rfl
theorem VC:mR[3]? =some {dst:=some 16,op:=.call {callee:=.value (.func 9),args:=#[.tmp 15],argTypes:=#[29]},type:=9,pos:= "slate.go:119",after:=#[{on:=2,ground:=.data}],guard:=none}:=rfl
theorem acU:qH mR mR.size (Array.replicate mR.size false)=[[0,1,2,3,4,5],[0,2,1,3,4,5],[0,2,3,1,4,5],[1,0,2,3,4,5],[1,2,0,3,4,5],[1,2,3,0,4,5],[2,0,1,3,4,5],[2,0,3,1,4,5],[2,1,0,3,4,5],[2,1,3,0,4,5],[2,3,0,1,4,5],[2,3,1,0,4,5]]:=by kernel_rfl
theorem bH{Bs S:Nat→Prop}{w₁:World}(hd:∀b,Bs b→b<w.heap.size∧¬S b)(hs:w.heap.size≤w₁.heap.size):∀b,Bs b→b<w₁.heap.size∧¬S b:=fun b hb=>⟨by have:=(hd b hb).1;omega,(hd b hb).2⟩
section
variable {p:EP} (h:p.Ok) {S:Nat→Prop} {a:Act} {rest:List Nat} {w:World}
include h
local notation "GG" =>GE prog false p.Bs p.ES
theorem MX(hx:a.eval (.tmp 4)= .pointer (some ⟨p.db,0,none⟩))(hF:p.K w)(hn:∀w₁,RY (fun b=>p.Bs b∨S b) w w₁→p.K w₁→GG S (G (b13.at (a.put (some 13) (.slice (some ⟨p.C,0,none⟩) p.n p.n)) [.inRegion mR rest]) [bot]) w₁):
 GG S (G (b13.at a [.inRegion mR (0::rest)]) [bot]) w:=
 GE.read rfl (.inl (.inl h.d)) fun w₁ q=>⟨jQ (.inr (.inr rfl)) Vz rfl (by decide) rfl hx (h.rely hF q).d vO,hn w₁ q (h.rely hF q)⟩
theorem MZ(hx:a.eval (.tmp 5)= .pointer (some ⟨p.ib,0,none⟩))(hF:p.K w)(hn:∀w₁,RY (fun b=>p.Bs b∨S b) w w₁→p.K w₁→GG S (G (b13.at (a.put (some 14) (.int .i64 p.j)) [.inRegion mR rest]) [bot]) w₁):
 GG S (G (b13.at a [.inRegion mR (1::rest)]) [bot]) w:=
 GE.read rfl (.inl (.inr (.inl rfl))) fun w₁ q=>⟨jQ (.inl rfl) VA rfl (by decide) rfl hx (h.rely hF q).i vO,hn w₁ q (h.rely hF q)⟩
theorem M0{v:Value}(hx:a.eval (.tmp 6)=v)(hF:p.K w)(hn:∀w₁,RY (fun b=>p.Bs b∨S b) w w₁→p.K w₁→GG S (G (b13.at (a.put (some 15) v) [.inRegion mR rest]) [bot]) w₁):
 GG S (G (b13.at a [.inRegion mR (2::rest)]) [bot]) w:=by
 refine GE.step rfl fun w₁ q=>?_;have hr:(execOp a.eval {dst:=some 15,op:=.move (.tmp 6),type:=29,pos:= "slate.go:119",after:=#[],guard:=none}).run prog w₁= .ok (.value v) w₁:=by unfold execOp;simp only[hx];rfl
 have hl:listed prog b13.fn a {dst:=some 15,op:=.move (.tmp 6),type:=29,pos:= "slate.go:119",after:=#[],guard:=none} w₁= #[]:=by unfold listed execOp;simp only[hx];exact seen_none _ _
 exact⟨_,w₁,_,stepG_value VB rfl (by decide) hr,by rw[hl];exact .idle _,by rw[gV];exact hn w₁ q (h.rely hF q)⟩
theorem M3{π:Nat→Nat}{V:World}{fb:Nat}(hr:HR 7 π V w)(vF:PF fb ((agR.fresh p.rows p.aa).feed (bl p.T)) V∧NP V∧∀τ,uq 7 τ→Go.Ren.Clean τ V∧mv τ (.pointer (some ⟨fb,0,none⟩))= .pointer (some ⟨fb,0,none⟩))(hd:∀b,p.Bs b→b<w.heap.size∧¬own 7 π V b)(hF:p.K w){x:Value}(hx:a.eval (.tmp 15)=x)(hxe:x= .pointer (some ⟨π fb,0,none⟩))(hn:∀S w',p.K w'→GG S (G (b13.at (a.put (some 16) (.string p.U)) [.inRegion mR rest]) [bot]) w'):GG (own 7 π V) (G (b13.at a [.inRegion mR (3::rest)]) [bot]) w:=by
 refine rQ Lj h.b7 h.on (Post:=Sl p) (fun _ _ _ _ x=>x) (f:=9) (jW:=#[.pointer (some ⟨fb,0,none⟩)]) rfl SK vF.2.1 (fun τ eY=>⟨(vF.2.2 τ eY).1,by simp[(vF.2.2 τ eY).2]⟩) (TL h vF.1) hr VC rfl (by decide) rfl func9 (by kernel_rfl) (by kernel_rfl) (fun w₁ ρ e=>?_) hd hF ?_
 ·simp[hx,hxe,mv,bW,e.old fb vF.1.lt]
 ·intro zU V' v w' _ _ ht hF' _;have hv:v= .string p.U:=ht.1;subst hv;simp only[mv];exact hn _ w' hF'
theorem xO(hF:p.K w)(v0 v1 v2 v3 v4 v5 v6 v7 v8 v9 v10 v11 v12 v15 v17:Value):
 GG S (G (b13.at ⟨#[v0,v1,v2,v3,v4,v5,v6,v7,v8,v9,v10,v11,v12,.slice (some ⟨p.C,0,none⟩) p.n p.n,.int .i64 p.j,v15,.string p.U,v17],[dcall 14 #[.pointer (some ⟨p.Wg,0,none⟩)]]⟩ [.inRegion mR [4,5]]) [bot]) w:=
 GE.stop fun w₁ q=>⟨rfl,fun hp hl=>⟨28,Jj h.cw h.hj h.n16 p.U p.n _ _ _ _ _ _ _ _ _ _ _ _ _ _ _ w₁ ⟨hl,hp⟩⟩⟩
theorem VM{π:Nat→Nat}{V:World}{fb rid:Nat}(hr:HR 7 π V w)(vF:PF fb ((agR.fresh p.rows p.aa).feed (bl p.T)) V∧NP V∧∀τ,uq 7 τ→Go.Ren.Clean τ V∧mv τ (.pointer (some ⟨fb,0,none⟩))= .pointer (some ⟨fb,0,none⟩))(hd:∀b,p.Bs b→b<w.heap.size∧¬own 7 π V b)(hF:p.K w)(v0 v1 v2 v3 v7 v8 v9 v10 v11 v12:Value):
 GG (own 7 π V) (G (b13.at ⟨#[v0,v1,v2,v3,.pointer (some ⟨p.db,0,none⟩),.pointer (some ⟨p.ib,0,none⟩),.pointer (some ⟨π fb,0,none⟩),v7,v8,v9,v10,v11,v12,undef,undef,undef,undef,undef],[dcall 14 #[.pointer (some ⟨p.Wg,0,none⟩)]]⟩ [.code (.region rid mR true)]) [bot]) w:=by
 refine GE.draw rfl fun w₁ q=>⟨_,stepG_region_draw,?_⟩
 replace hr:=hr.rely ⟨fun y hy=>q.keep y (hy.imp (h.b7 y) id),q.size,q.os⟩
 replace hd:=bH hd q.size
 replace hF:=h.rely hF q
 replace hr:HR 7 π V {w₁ with drawn:=w₁.drawn+1}:=hr.rely ⟨fun _ _=>rfl,bE _,rfl⟩
 replace hF:p.K {w₁ with drawn:=w₁.drawn+1}:=h.on w₁ _ (fun _ _=>rfl) (bE _) rfl hF
 replace hd:∀b,p.Bs b→b<({w₁ with drawn:=w₁.drawn+1}:World).heap.size∧¬own 7 π V b:=hd
 generalize ({w₁ with drawn:=w₁.drawn+1}:World)=w₂ at hr hF hd ⊢;have hm:=vT mixed mR (w₁.tape w₁.drawn (.order b13.fn rid));rw[acU]at hm;generalize Region.schedule (prog.follows .mixedOrders) mR (w₁.tape w₁.drawn (.order b13.fn rid))=l at hm ⊢;clear q;simp only[di,eU,eX]at hm;rcases hm with rfl|rfl|rfl|rfl|rfl|rfl|rfl|rfl|rfl|rfl|rfl|rfl
 ·refine MX h rfl hF (fun w' q hF=>?_)
  replace hr:=hr.rely ⟨fun y hy=>q.keep y (hy.imp (h.b7 y) id),q.size,q.os⟩
  replace hd:=bH hd q.size
  walk_nrm
  refine MZ h rfl hF (fun w' q hF=>?_)
  replace hr:=hr.rely ⟨fun y hy=>q.keep y (hy.imp (h.b7 y) id),q.size,q.os⟩
  replace hd:=bH hd q.size
  walk_nrm
  refine M0 h rfl hF (fun w' q hF=>?_)
  replace hr:=hr.rely ⟨fun y hy=>q.keep y (hy.imp (h.b7 y) id),q.size,q.os⟩
  replace hd:=bH hd q.size
  walk_nrm
  refine M3 h hr vF hd hF rfl rfl (fun S w' hF=>?_);clear hr hd
  walk_nrm
  exact xO h hF _ _ _ _ _ _ _ _ _ _ _ _ _ _ _
 ·refine MX h rfl hF (fun w' q hF=>?_)
  replace hr:=hr.rely ⟨fun y hy=>q.keep y (hy.imp (h.b7 y) id),q.size,q.os⟩
  replace hd:=bH hd q.size
  walk_nrm
  refine M0 h rfl hF (fun w' q hF=>?_)
  replace hr:=hr.rely ⟨fun y hy=>q.keep y (hy.imp (h.b7 y) id),q.size,q.os⟩
  replace hd:=bH hd q.size
  walk_nrm
  refine MZ h rfl hF (fun w' q hF=>?_)
  replace hr:=hr.rely ⟨fun y hy=>q.keep y (hy.imp (h.b7 y) id),q.size,q.os⟩
  replace hd:=bH hd q.size
  walk_nrm
  refine M3 h hr vF hd hF rfl rfl (fun S w' hF=>?_);clear hr hd
  walk_nrm
  exact xO h hF _ _ _ _ _ _ _ _ _ _ _ _ _ _ _
 ·refine MX h rfl hF (fun w' q hF=>?_)
  replace hr:=hr.rely ⟨fun y hy=>q.keep y (hy.imp (h.b7 y) id),q.size,q.os⟩
  replace hd:=bH hd q.size
  walk_nrm
  refine M0 h rfl hF (fun w' q hF=>?_)
  replace hr:=hr.rely ⟨fun y hy=>q.keep y (hy.imp (h.b7 y) id),q.size,q.os⟩
  replace hd:=bH hd q.size
  walk_nrm
  refine M3 h hr vF hd hF rfl rfl (fun S w' hF=>?_);clear hr hd
  walk_nrm
  refine MZ h rfl hF (fun w' q hF=>?_)
  walk_nrm
  exact xO h hF _ _ _ _ _ _ _ _ _ _ _ _ _ _ _
 ·refine MZ h rfl hF (fun w' q hF=>?_)
  replace hr:=hr.rely ⟨fun y hy=>q.keep y (hy.imp (h.b7 y) id),q.size,q.os⟩
  replace hd:=bH hd q.size
  walk_nrm
  refine MX h rfl hF (fun w' q hF=>?_)
  replace hr:=hr.rely ⟨fun y hy=>q.keep y (hy.imp (h.b7 y) id),q.size,q.os⟩
  replace hd:=bH hd q.size
  walk_nrm
  refine M0 h rfl hF (fun w' q hF=>?_)
  replace hr:=hr.rely ⟨fun y hy=>q.keep y (hy.imp (h.b7 y) id),q.size,q.os⟩
  replace hd:=bH hd q.size
  walk_nrm
  refine M3 h hr vF hd hF rfl rfl (fun S w' hF=>?_);clear hr hd
  walk_nrm
  exact xO h hF _ _ _ _ _ _ _ _ _ _ _ _ _ _ _
 ·refine MZ h rfl hF (fun w' q hF=>?_)
  replace hr:=hr.rely ⟨fun y hy=>q.keep y (hy.imp (h.b7 y) id),q.size,q.os⟩
  replace hd:=bH hd q.size
  walk_nrm
  refine M0 h rfl hF (fun w' q hF=>?_)
  replace hr:=hr.rely ⟨fun y hy=>q.keep y (hy.imp (h.b7 y) id),q.size,q.os⟩
  replace hd:=bH hd q.size
  walk_nrm
  refine MX h rfl hF (fun w' q hF=>?_)
  replace hr:=hr.rely ⟨fun y hy=>q.keep y (hy.imp (h.b7 y) id),q.size,q.os⟩
  replace hd:=bH hd q.size
  walk_nrm
  refine M3 h hr vF hd hF rfl rfl (fun S w' hF=>?_);clear hr hd
  walk_nrm
  exact xO h hF _ _ _ _ _ _ _ _ _ _ _ _ _ _ _
 ·refine MZ h rfl hF (fun w' q hF=>?_)
  replace hr:=hr.rely ⟨fun y hy=>q.keep y (hy.imp (h.b7 y) id),q.size,q.os⟩
  replace hd:=bH hd q.size
  walk_nrm
  refine M0 h rfl hF (fun w' q hF=>?_)
  replace hr:=hr.rely ⟨fun y hy=>q.keep y (hy.imp (h.b7 y) id),q.size,q.os⟩
  replace hd:=bH hd q.size
  walk_nrm
  refine M3 h hr vF hd hF rfl rfl (fun S w' hF=>?_);clear hr hd
  walk_nrm
  refine MX h rfl hF (fun w' q hF=>?_)
  walk_nrm
  exact xO h hF _ _ _ _ _ _ _ _ _ _ _ _ _ _ _
 ·refine M0 h rfl hF (fun w' q hF=>?_)
  replace hr:=hr.rely ⟨fun y hy=>q.keep y (hy.imp (h.b7 y) id),q.size,q.os⟩
  replace hd:=bH hd q.size
  walk_nrm
  refine MX h rfl hF (fun w' q hF=>?_)
  replace hr:=hr.rely ⟨fun y hy=>q.keep y (hy.imp (h.b7 y) id),q.size,q.os⟩
  replace hd:=bH hd q.size
  walk_nrm
  refine MZ h rfl hF (fun w' q hF=>?_)
  replace hr:=hr.rely ⟨fun y hy=>q.keep y (hy.imp (h.b7 y) id),q.size,q.os⟩
  replace hd:=bH hd q.size
  walk_nrm
  refine M3 h hr vF hd hF rfl rfl (fun S w' hF=>?_);clear hr hd
  walk_nrm
  exact xO h hF _ _ _ _ _ _ _ _ _ _ _ _ _ _ _
 ·refine M0 h rfl hF (fun w' q hF=>?_)
  replace hr:=hr.rely ⟨fun y hy=>q.keep y (hy.imp (h.b7 y) id),q.size,q.os⟩
  replace hd:=bH hd q.size
  walk_nrm
  refine MX h rfl hF (fun w' q hF=>?_)
  replace hr:=hr.rely ⟨fun y hy=>q.keep y (hy.imp (h.b7 y) id),q.size,q.os⟩
  replace hd:=bH hd q.size
  walk_nrm
  refine M3 h hr vF hd hF rfl rfl (fun S w' hF=>?_);clear hr hd
  walk_nrm
  refine MZ h rfl hF (fun w' q hF=>?_)
  walk_nrm
  exact xO h hF _ _ _ _ _ _ _ _ _ _ _ _ _ _ _
 ·refine M0 h rfl hF (fun w' q hF=>?_)
  replace hr:=hr.rely ⟨fun y hy=>q.keep y (hy.imp (h.b7 y) id),q.size,q.os⟩
  replace hd:=bH hd q.size
  walk_nrm
  refine MZ h rfl hF (fun w' q hF=>?_)
  replace hr:=hr.rely ⟨fun y hy=>q.keep y (hy.imp (h.b7 y) id),q.size,q.os⟩
  replace hd:=bH hd q.size
  walk_nrm
  refine MX h rfl hF (fun w' q hF=>?_)
  replace hr:=hr.rely ⟨fun y hy=>q.keep y (hy.imp (h.b7 y) id),q.size,q.os⟩
  replace hd:=bH hd q.size
  walk_nrm
  refine M3 h hr vF hd hF rfl rfl (fun S w' hF=>?_);clear hr hd
  walk_nrm
  exact xO h hF _ _ _ _ _ _ _ _ _ _ _ _ _ _ _
 ·refine M0 h rfl hF (fun w' q hF=>?_)
  replace hr:=hr.rely ⟨fun y hy=>q.keep y (hy.imp (h.b7 y) id),q.size,q.os⟩
  replace hd:=bH hd q.size
  walk_nrm
  refine MZ h rfl hF (fun w' q hF=>?_)
  replace hr:=hr.rely ⟨fun y hy=>q.keep y (hy.imp (h.b7 y) id),q.size,q.os⟩
  replace hd:=bH hd q.size
  walk_nrm
  refine M3 h hr vF hd hF rfl rfl (fun S w' hF=>?_);clear hr hd
  walk_nrm
  refine MX h rfl hF (fun w' q hF=>?_)
  walk_nrm
  exact xO h hF _ _ _ _ _ _ _ _ _ _ _ _ _ _ _
 ·refine M0 h rfl hF (fun w' q hF=>?_)
  replace hr:=hr.rely ⟨fun y hy=>q.keep y (hy.imp (h.b7 y) id),q.size,q.os⟩
  replace hd:=bH hd q.size
  walk_nrm
  refine M3 h hr vF hd hF rfl rfl (fun S w' hF=>?_);clear hr hd
  walk_nrm
  refine MX h rfl hF (fun w' q hF=>?_)
  walk_nrm
  refine MZ h rfl hF (fun w' q hF=>?_)
  walk_nrm
  exact xO h hF _ _ _ _ _ _ _ _ _ _ _ _ _ _ _
 ·refine M0 h rfl hF (fun w' q hF=>?_)
  replace hr:=hr.rely ⟨fun y hy=>q.keep y (hy.imp (h.b7 y) id),q.size,q.os⟩
  replace hd:=bH hd q.size
  walk_nrm
  refine M3 h hr vF hd hF rfl rfl (fun S w' hF=>?_);clear hr hd
  walk_nrm
  refine MZ h rfl hF (fun w' q hF=>?_)
  walk_nrm
  refine MX h rfl hF (fun w' q hF=>?_)
  walk_nrm
  exact xO h hF _ _ _ _ _ _ _ _ _ _ _ _ _ _ _
end
end Go.Proofs.YtheibfffilomcabGreatDoor
