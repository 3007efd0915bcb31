import Derived.Test.YtheibfffilomcaaGreatDoorTmaU
import Derived.Test.YtheibfffilomcaaGreatDoorTqU
set_option linter.all false
set_option maxRecDepth 100000
set_option maxHeartbeats 2000000
namespace Go.Proofs.YtheibfffilomcaaGreatDoor
open Go.RowKit Go.Proofs.Tryz
theorem P9(L:Lay)(s:TS)(u:World)(ht:cO u L s)(hi:s.Inv)(hin:s.row≤s.bottom)(n:Nat)(hn:1≤n∧n≤70000):Calls prog 173 #[.slice (some ⟨L.sb s,s.row.toNat,none⟩) s.below (s.rows-s.row.toNat),.int .i64 (n:Int)] u fun e w'=>e= .returned (.tuple #[])∧cO w' L (s.setCur (FX s.cur s.row.toNat s.below n s.ah))∧Ch L.own u w':=by obtain⟨h1,h2,h3⟩:=Gn hi hin;have:=hi.r2;have:=hi.c2;exact(Sv (L.sb s) s.row.toNat s.below n (s.rows-s.row.toNat) s.ah (L.gs s) s.cur u ht.cur (by rw[hi.ql];exact h1) h2 (by omega) hn.2 hn.1 (by omega) h3).mono fun e w' h=>⟨h.1,ht.setCur h.2.2 h.2.1,GU h.2.2⟩
theorem Jy(L:Lay)(s:TS)(u:World)(ht:cO u L s)(hi:s.Inv)(hin:s.row≤s.bottom)(n:Nat)(hn:1≤n∧n≤70000):Calls prog 190 #[.slice (some ⟨L.sb s,s.row.toNat,none⟩) s.below (s.rows-s.row.toNat),.int .i64 (n:Int)] u fun e w'=>e= .returned (.tuple #[])∧cO w' L (s.setCur (oC s.cur s.row.toNat s.below n s.ah))∧Ch L.own u w':=by obtain⟨h1,h2,h3⟩:=Gn hi hin;have:=hi.r2;have:=hi.c2;exact(Gw (L.sb s) s.row.toNat s.below n (s.rows-s.row.toNat) s.ah (L.gs s) s.cur u ht.cur (by rw[hi.ql];exact h1) h2 (by omega) hn.2 hn.1 (by omega) h3).mono fun e w' h=>⟨h.1,ht.setCur h.2.2 h.2.1,GU h.2.2⟩
theorem TS.Inv.dD{s:TS}(h:s.Inv)(what:Int):(s.dD what).Inv:=by
 unfold TS.dD;split
 ·exact h.aN _
 ·split
  ·exact h.aN _
  ·split
   ·exact h.aN _
   ·exact h
theorem Qr(L:Lay)(s:TS)(w:World)(ht:cO w L s)(hi:s.Inv)(ev:List Int)(hev:ev.length=21)(h5: -1≤ev.getD 5 0∧ev.getD 5 0≤65535):Calls prog 112 #[.pointer (some ⟨L.tb,0,none⟩),.agg (aA ev)] w fun e w'=>e= .returned (.tuple #[])∧cO w' L (s.edit (ev.getD 3 0) (ev.getD 5 0))∧Ch L.own w w':=by
 have HT0:=ht.sm ((Ch.refl (fun _=>False) w).alloc (.cells (aA ev) 46));have e3:(w.alloc (.cells (aA ev) 46)).cell? ⟨w.heap.size,3,none⟩=some (.int .i64 (ev.getD 3 0)):=kD (bV _ _) (by omega);have e5:(w.alloc (.cells (aA ev) 46)).cell? ⟨w.heap.size,5,none⟩=some (.int .i64 (ev.getD 5 0)):=kD (bV _ _) (by omega);have e6:(w.alloc (.cells (aA ev) 46)).cell? ⟨w.heap.size,6,none⟩=some (.int .i64 (ev.getD 6 0)):=kD (bV _ _) (by omega);have ng:Hid (Ch L.own w (w.alloc (.cells (aA ev) 46))):=(Ch.refl _ _).alloc _;have hlt:=ht.lt;generalize ev.getD 3 0=f at*;generalize ev.getD 5 0=p0 at*;generalize ev.getD 6 0=p1 at*;have HI:Hid s.Inv:=hi;have HT:Hid _:=HT0;obtain⟨nn,hnn⟩:∃nn:Nat,TS.times p0=(nn:Int):=⟨(TS.times p0).toNat,by unfold TS.times;omega⟩;have hn:1≤nn∧nn≤65535:=by unfold TS.times at hnn;omega
 have hnt:(TS.times p0).toNat=nn:=by rw[hnn];rfl
 obtain⟨cc,hcc⟩:∃cc:Nat,s.col=(cc:Int):=⟨s.col.toNat,by have:=hi.jA;omega⟩;have hcl:cc<s.ah:=by have:=hi.jD;omega
 have hcn:s.col.toNat=cc:=by rw[hcc];rfl
 have hc2:=hi.c2;clear ht hi HT0;rcases(show f=74∨f=75∨f=64∨f=80∨f=88∨f=76∨f=77∨f=83∨f=84∨¬(f=74∨f=75∨f=64∨f=80∨f=88∨f=76∨f=77∨f=83∨f=84) by omega)with rfl|rfl|rfl|rfl|rfl|rfl|rfl|rfl|rfl|hf
 ·rw[show s.edit 74 p0=(s.dD (TS.amount p0)).dY (TS.amount p0) from rfl];go_enter func112,ntmps112;go_wp2_with fail;go_quiet ((first|(go_at_call 179;exact nH (iA _ _))|(go_at_call 183;exact nH (fQ _ _))));rw[hnn];have HT1:Hid (cO (World.drewN (w.alloc (Obj.cells (aA ev) 46)) nq) L s):=HT.o.drewN nq;have xm:Hid (Ch L.own w (World.drewN (w.alloc (Obj.cells (aA ev) 46)) nq)):=ng.o.drewN nq;have e3':World.cell? (World.drewN (w.alloc (Obj.cells (aA ev) 46)) nq) ⟨w.heap.size,3,none⟩=some (.int .i64 74):=e3;clear e3 e5 e6 HT ng;generalize hU:World.drewN (w.alloc (Obj.cells (aA ev) 46)) nq=U at*;generalize hlb:w.heap.size=lb at*;go_wp2_with (first|(go_at_call 184;refine(yh L s U HT1.o HI.o (TS.amount p0)).mono ?_;rintro e w1 ⟨rfl,h1,c1⟩)|(go_at_call 185;refine(Bj L (s.dD (TS.amount p0)) _ h1 (HI.o.dD _) (TS.amount p0)).mono ?_;rintro e w2 ⟨rfl,h2,c2⟩));go_end0;exact⟨rfl,h2,xm.o.trans (c1.trans c2)⟩
 ·rw[show s.edit 75 p0=s.dD (TS.amount p0) from rfl];go_enter func112,ntmps112;go_wp2_with fail;go_quiet ((first|(go_at_call 179;exact nH (iA _ _))|(go_at_call 183;exact nH (fQ _ _))));rw[hnn];have HT1:Hid (cO (World.drewN (w.alloc (Obj.cells (aA ev) 46)) nq) L s):=HT.o.drewN nq;have xm:Hid (Ch L.own w (World.drewN (w.alloc (Obj.cells (aA ev) 46)) nq)):=ng.o.drewN nq;have e3':World.cell? (World.drewN (w.alloc (Obj.cells (aA ev) 46)) nq) ⟨w.heap.size,3,none⟩=some (.int .i64 75):=e3;clear e3 e5 e6 HT ng;generalize hU:World.drewN (w.alloc (Obj.cells (aA ev) 46)) nq=U at*;generalize hlb:w.heap.size=lb at*;go_wp2_with (go_at_call 184;refine(yh L s U HT1.o HI.o (TS.amount p0)).mono ?_;rintro e w1 ⟨rfl,h1,c1⟩);go_end0;exact⟨rfl,h1,xm.o.trans c1⟩
 ·rw[show s.edit 64 p0=s.aN (jd s.aP s.col.toNat (TS.times p0).toNat) from rfl,hcn,hnt];go_enter func112,ntmps112;go_wp2_with fail;go_quiet ((first|(go_at_call 179;exact nH (iA _ _))|(go_at_call 183;exact nH (fQ _ _))));rw[hnn];have HT1:Hid (cO (World.drewN (w.alloc (Obj.cells (aA ev) 46)) nq) L s):=HT.o.drewN nq;have xm:Hid (Ch L.own w (World.drewN (w.alloc (Obj.cells (aA ev) 46)) nq)):=ng.o.drewN nq;have e3':World.cell? (World.drewN (w.alloc (Obj.cells (aA ev) 46)) nq) ⟨w.heap.size,3,none⟩=some (.int .i64 64):=e3;clear e3 e5 e6 HT ng;generalize hU:World.drewN (w.alloc (Obj.cells (aA ev) 46)) nq=U at*;generalize hlb:w.heap.size=lb at*;go_wp2_with fail;obtain⟨g,hg,hrow,hlen⟩:=HT1.o.CG HI.o;have rW:cO ({U with drawn:=World.drawn U+1}:World) L s:=HT1.o.sm ((Ch.refl _ _).drewN 1);have HH:World.cell? ({U with drawn:=World.drawn U+1}:World) ⟨L.tb,27,none⟩=some (.int .i64 (cc:Int)):=by rw[←hcc];exact rW.c 27 _ rfl
  have HG:Hid _:=hg;have HRW:Hid (aV (U) g s.aP):=hrow;have mW:Hid _:=hlen;clear hg hrow hlen;refine dX (S:=fun x=>x.cell? ⟨L.tb,27,none⟩=some (.int .i64 (cc:Int))) aX ?_;refine ay 0 2 3 4 HH ?_;simp only[ag,af];refine ay 5 6 7 8 HH ?_;simp only[ag,af];refine av 1 ?_;refine dN (vs:=[.pointer (some ⟨L.tb,0,none⟩)]) (oW L s _ rW HI.o g HG.o) ?_;rintro v2 w2 ⟨rfl,mm,rfl⟩;refine⟨HH,?_⟩;simp only[ag,af];refine av 9 ?_;refine a_ (vs:=[.slice (some ⟨g,0,none⟩) s.ah s.ah,.int .i64 (cc:Int),.int .i64 (nn:Int)]) (R:=fun v w'=>v= .tuple #[]∧aV w' g (jd s.aP cc nn)∧Ch (· =g) (U) w') ((Bz g cc nn s.ah s.aP (World.drewN ({U with drawn:=World.drawn U+1}:World) mm) HRW.o mW.o hcl (by omega) (by omega)).mono fun e w' h=>⟨_,h.1,rfl,h.2.1,⟨h.2.2.os,h.2.2.tape,h.2.2.output,h.2.2.size,h.2.2.block⟩⟩) ?_;rintro v3 U2 ⟨rfl,r2,k2⟩;have T2:cO U2 L (s.aN (jd s.aP cc nn)):=HT1.o.aN HG.o r2 (by rw[lW _ _ _ (by rw[mW.o];omega)];exact mW.o) k2;have hne:L.tb≠g:=HT1.o.t_ HG.o;have hbk:=k2.block L.tb HT1.o.lt hne;refine⟨(dA hbk).trans HH,?_⟩;simp only[ag,af];have n_:Hid (Ch L.own (U) U2):=k2.mono fun k _ e=>e▸Lay.qM (iH HG.o);have HT2:Hid _:=T2;clear T2 r2 k2 hne hbk HG HRW mW rW HH;refine aC ?_;go_wp2_with fail;go_end0;exact⟨rfl,HT2.o,xm.o.trans n_.o⟩
 ·rw[show s.edit 80 p0=s.aN (jT s.aP s.col.toNat (TS.times p0).toNat) from rfl,hcn,hnt];go_enter func112,ntmps112;go_wp2_with fail;go_quiet ((first|(go_at_call 179;exact nH (iA _ _))|(go_at_call 183;exact nH (fQ _ _))));rw[hnn];have HT1:Hid (cO (World.drewN (w.alloc (Obj.cells (aA ev) 46)) nq) L s):=HT.o.drewN nq;have xm:Hid (Ch L.own w (World.drewN (w.alloc (Obj.cells (aA ev) 46)) nq)):=ng.o.drewN nq;have e3':World.cell? (World.drewN (w.alloc (Obj.cells (aA ev) 46)) nq) ⟨w.heap.size,3,none⟩=some (.int .i64 80):=e3;clear e3 e5 e6 HT ng;generalize hU:World.drewN (w.alloc (Obj.cells (aA ev) 46)) nq=U at*;generalize hlb:w.heap.size=lb at*;go_wp2_with fail;obtain⟨g,hg,hrow,hlen⟩:=HT1.o.CG HI.o;have rW:cO ({U with drawn:=World.drawn U+1}:World) L s:=HT1.o.sm ((Ch.refl _ _).drewN 1);have HH:World.cell? ({U with drawn:=World.drawn U+1}:World) ⟨L.tb,27,none⟩=some (.int .i64 (cc:Int)):=by rw[←hcc];exact rW.c 27 _ rfl
  have HG:Hid _:=hg;have HRW:Hid (aV (U) g s.aP):=hrow;have mW:Hid _:=hlen;clear hg hrow hlen;refine dX (S:=fun x=>x.cell? ⟨L.tb,27,none⟩=some (.int .i64 (cc:Int))) aX ?_;refine ay 0 2 3 4 HH ?_;simp only[ag,af];refine ay 5 6 7 8 HH ?_;simp only[ag,af];refine av 1 ?_;refine dN (vs:=[.pointer (some ⟨L.tb,0,none⟩)]) (oW L s _ rW HI.o g HG.o) ?_;rintro v2 w2 ⟨rfl,mm,rfl⟩;refine⟨HH,?_⟩;simp only[ag,af];refine av 9 ?_;refine a_ (vs:=[.slice (some ⟨g,0,none⟩) s.ah s.ah,.int .i64 (cc:Int),.int .i64 (nn:Int)]) (R:=fun v w'=>v= .tuple #[]∧aV w' g (jT s.aP cc nn)∧Ch (· =g) (U) w') ((Ko g cc nn s.ah s.aP (World.drewN ({U with drawn:=World.drawn U+1}:World) mm) HRW.o mW.o hcl (by omega) (by omega) (by omega)).mono fun e w' h=>⟨_,h.1,rfl,h.2.1,⟨h.2.2.os,h.2.2.tape,h.2.2.output,h.2.2.size,h.2.2.block⟩⟩) ?_;rintro v3 U2 ⟨rfl,r2,k2⟩;have T2:cO U2 L (s.aN (jT s.aP cc nn)):=HT1.o.aN HG.o r2 (by rw[qP _ _ _ (by rw[mW.o];omega)];exact mW.o) k2;have hne:L.tb≠g:=HT1.o.t_ HG.o;have hbk:=k2.block L.tb HT1.o.lt hne;refine⟨(dA hbk).trans HH,?_⟩;simp only[ag,af];have n_:Hid (Ch L.own (U) U2):=k2.mono fun k _ e=>e▸Lay.qM (iH HG.o);have HT2:Hid _:=T2;clear T2 r2 k2 hne hbk HG HRW mW rW HH;refine aC ?_;go_wp2_with fail;go_end0;exact⟨rfl,HT2.o,xm.o.trans n_.o⟩
 ·rw[show s.edit 88 p0=s.aN (dP s.aP s.col.toNat (min (s.col.toNat+(TS.times p0).toNat) s.ah)) from rfl,hcn,hnt];have v1:IntKind.i64.wrap ((cc:Int)+(nn:Int))=(cc:Int)+(nn:Int):=bD _ (by omega);by_cases hmn:cc+nn≤s.ah
  ·rw[rT hmn];have m1:(cc:Int)+(nn:Int)≤(s.ah:Int):=by omega
   have m2:¬(s.ah:Int)<(cc:Int)+(nn:Int):=by omega
   go_enter func112,ntmps112;go_wp2_with fail;go_quiet ((first|(go_at_call 179;exact nH (iA _ _))|(go_at_call 183;exact nH (fQ _ _))));rw[hnn];have HT1:Hid (cO (World.drewN (w.alloc (Obj.cells (aA ev) 46)) nq) L s):=HT.o.drewN nq;have xm:Hid (Ch L.own w (World.drewN (w.alloc (Obj.cells (aA ev) 46)) nq)):=ng.o.drewN nq;have e3':World.cell? (World.drewN (w.alloc (Obj.cells (aA ev) 46)) nq) ⟨w.heap.size,3,none⟩=some (.int .i64 88):=e3;clear e3 e5 e6 HT ng;generalize hU:World.drewN (w.alloc (Obj.cells (aA ev) 46)) nq=U at*;generalize hlb:w.heap.size=lb at*;go_wp2_with fail;obtain⟨g,hg,hrow,hlen⟩:=HT1.o.CG HI.o;have rW:cO ({U with drawn:=World.drawn U+1}:World) L s:=HT1.o.sm ((Ch.refl _ _).drewN 1);have HH:World.cell? ({U with drawn:=World.drawn U+1}:World) ⟨L.tb,27,none⟩=some (.int .i64 (cc:Int))∧World.cell? ({U with drawn:=World.drawn U+1}:World) ⟨L.tb,43,none⟩=some (.slice (some ⟨L.gb,0,none⟩) s.ah s.ah):=⟨by rw[←hcc];exact rW.c 27 _ rfl,rW.c 43 _ rfl⟩;have HG:Hid _:=hg;have HRW:Hid (aV (U) g s.aP):=hrow;have mW:Hid _:=hlen;clear hg hrow hlen;refine dX (S:=fun x=>x.cell? ⟨L.tb,27,none⟩=some (.int .i64 (cc:Int))∧x.cell? ⟨L.tb,43,none⟩=some (.slice (some ⟨L.gb,0,none⟩) s.ah s.ah)) aX ?_;refine ay 0 2 3 4 HH ?_;simp only[ag,af];refine ay 5 6 7 8 HH ?_;simp only[ag,af];refine ay 9 10 11 12 HH ?_;simp only[ag,af];refine dW 13 14 HH ?_;refine aj 15 HH ?_ (v:=.int .i64 ((cc:Int)+(nn:Int)));refine aj 16 HH ?_;simp only[ag,af];refine dH 17 18 19 HH ?_;refine aj 20 HH ?_ (v:=.int .i64 (s.ah:Int));simp only[ag,af];refine aj 21 HH ?_ (v:=.int .i64 ((cc:Int)+(nn:Int)));simp only[ag,af];refine av 1 ?_;refine dN (vs:=[.pointer (some ⟨L.tb,0,none⟩)]) (oW L s _ rW HI.o g HG.o) ?_;rintro v2 w2 ⟨rfl,mm,rfl⟩;refine⟨HH,?_⟩;simp only[ag,af];refine av 22 ?_;refine a_ (vs:=[.slice (some ⟨g,0,none⟩) s.ah s.ah,.int .i64 (cc:Int),.int .i64 ((cc+nn:Nat):Int)]) (R:=fun v w'=>v= .tuple #[]∧aV w' g (dP s.aP cc (cc+nn))∧Ch (· =g) (U) w') ((rZ g cc (cc+nn) s.ah s.aP (World.drewN ({U with drawn:=World.drawn U+1}:World) mm) HRW.o mW.o (by omega) (by omega) (by omega)).mono fun e w' h=>⟨_,h.1,rfl,h.2.1,⟨h.2.2.os,h.2.2.tape,h.2.2.output,h.2.2.size,h.2.2.block⟩⟩) ?_;rintro v3 U2 ⟨rfl,r2,k2⟩;have T2:cO U2 L (s.aN (dP s.aP cc (cc+nn))):=HT1.o.aN HG.o r2 (by rw[kP _ _ _ (by rw[mW.o];omega) (by omega)];exact mW.o) k2;have hne:L.tb≠g:=HT1.o.t_ HG.o;have hbk:=k2.block L.tb HT1.o.lt hne;refine⟨⟨(dA hbk).trans HH.1,(dA hbk).trans HH.2⟩,?_⟩;simp only[ag,af];have n_:Hid (Ch L.own (U) U2):=k2.mono fun k _ e=>e▸Lay.qM (iH HG.o);have HT2:Hid _:=T2;clear T2 r2 k2 hne hbk HG HRW mW rW HH;refine aC ?_;go_wp2_with fail;go_end0;exact⟨rfl,HT2.o,xm.o.trans n_.o⟩
  ·rw[wO (by omega)];have m1:¬(cc:Int)+(nn:Int)≤(s.ah:Int):=by omega
   have m2:(s.ah:Int)<(cc:Int)+(nn:Int):=by omega
   go_enter func112,ntmps112;go_wp2_with fail;go_quiet ((first|(go_at_call 179;exact nH (iA _ _))|(go_at_call 183;exact nH (fQ _ _))));rw[hnn];have HT1:Hid (cO (World.drewN (w.alloc (Obj.cells (aA ev) 46)) nq) L s):=HT.o.drewN nq;have xm:Hid (Ch L.own w (World.drewN (w.alloc (Obj.cells (aA ev) 46)) nq)):=ng.o.drewN nq;have e3':World.cell? (World.drewN (w.alloc (Obj.cells (aA ev) 46)) nq) ⟨w.heap.size,3,none⟩=some (.int .i64 88):=e3;clear e3 e5 e6 HT ng;generalize hU:World.drewN (w.alloc (Obj.cells (aA ev) 46)) nq=U at*;generalize hlb:w.heap.size=lb at*;go_wp2_with fail;obtain⟨g,hg,hrow,hlen⟩:=HT1.o.CG HI.o;have rW:cO ({U with drawn:=World.drawn U+1}:World) L s:=HT1.o.sm ((Ch.refl _ _).drewN 1);have HH:World.cell? ({U with drawn:=World.drawn U+1}:World) ⟨L.tb,27,none⟩=some (.int .i64 (cc:Int))∧World.cell? ({U with drawn:=World.drawn U+1}:World) ⟨L.tb,43,none⟩=some (.slice (some ⟨L.gb,0,none⟩) s.ah s.ah):=⟨by rw[←hcc];exact rW.c 27 _ rfl,rW.c 43 _ rfl⟩;have HG:Hid _:=hg;have HRW:Hid (aV (U) g s.aP):=hrow;have mW:Hid _:=hlen;clear hg hrow hlen;refine dX (S:=fun x=>x.cell? ⟨L.tb,27,none⟩=some (.int .i64 (cc:Int))∧x.cell? ⟨L.tb,43,none⟩=some (.slice (some ⟨L.gb,0,none⟩) s.ah s.ah)) aX ?_;refine ay 0 2 3 4 HH ?_;simp only[ag,af];refine ay 5 6 7 8 HH ?_;simp only[ag,af];refine ay 9 10 11 12 HH ?_;simp only[ag,af];refine dW 13 14 HH ?_;refine aj 15 HH ?_ (v:=.int .i64 ((cc:Int)+(nn:Int)));refine aj 16 HH ?_;simp only[ag,af];refine dH 17 18 19 HH ?_;refine aj 20 HH ?_ (v:=.int .i64 (s.ah:Int));simp only[ag,af];refine aj 21 HH ?_ (v:=.int .i64 (s.ah:Int));simp only[ag,af];refine av 1 ?_;refine dN (vs:=[.pointer (some ⟨L.tb,0,none⟩)]) (oW L s _ rW HI.o g HG.o) ?_;rintro v2 w2 ⟨rfl,mm,rfl⟩;refine⟨HH,?_⟩;simp only[ag,af];refine av 22 ?_;refine a_ (vs:=[.slice (some ⟨g,0,none⟩) s.ah s.ah,.int .i64 (cc:Int),.int .i64 ((s.ah:Nat):Int)]) (R:=fun v w'=>v= .tuple #[]∧aV w' g (dP s.aP cc (s.ah))∧Ch (· =g) (U) w') ((rZ g cc (s.ah) s.ah s.aP (World.drewN ({U with drawn:=World.drawn U+1}:World) mm) HRW.o mW.o (by omega) (by omega) (by omega)).mono fun e w' h=>⟨_,h.1,rfl,h.2.1,⟨h.2.2.os,h.2.2.tape,h.2.2.output,h.2.2.size,h.2.2.block⟩⟩) ?_;rintro v3 U2 ⟨rfl,r2,k2⟩;have T2:cO U2 L (s.aN (dP s.aP cc (s.ah))):=HT1.o.aN HG.o r2 (by rw[kP _ _ _ (by rw[mW.o];omega) (by omega)];exact mW.o) k2;have hne:L.tb≠g:=HT1.o.t_ HG.o;have hbk:=k2.block L.tb HT1.o.lt hne;refine⟨⟨(dA hbk).trans HH.1,(dA hbk).trans HH.2⟩,?_⟩;simp only[ag,af];have n_:Hid (Ch L.own (U) U2):=k2.mono fun k _ e=>e▸Lay.qM (iH HG.o);have HT2:Hid _:=T2;clear T2 r2 k2 hne hbk HG HRW mW rW HH;refine aC ?_;go_wp2_with fail;go_end0;exact⟨rfl,HT2.o,xm.o.trans n_.o⟩
 ·have hX:s.edit 76 p0=if s.inRegion then(s.setCur (oC s.cur s.row.toNat s.below (TS.times p0).toNat s.ah)).bQ 0 else s:=rfl;rw[hnt]at hX;rw[hX];clear hX;cases hir:s.inRegion with
  |true=>
   rw[ak rfl];have hin:s.row≤s.bottom:=by unfold TS.inRegion at hir;have:=pV hir;omega
   have Dc:Hid _:=hin;clear hin;go_enter func112,ntmps112;go_wp2_with fail;go_quiet ((first|(go_at_call 179;exact nH (iA _ _))|(go_at_call 183;exact nH (fQ _ _))));rw[hnn];have HT1:Hid (cO (World.drewN (w.alloc (Obj.cells (aA ev) 46)) nq) L s):=HT.o.drewN nq;have xm:Hid (Ch L.own w (World.drewN (w.alloc (Obj.cells (aA ev) 46)) nq)):=ng.o.drewN nq;have e3':World.cell? (World.drewN (w.alloc (Obj.cells (aA ev) 46)) nq) ⟨w.heap.size,3,none⟩=some (.int .i64 76):=e3;clear e3 e5 e6 HT ng;generalize hU:World.drewN (w.alloc (Obj.cells (aA ev) 46)) nq=U at*;generalize hlb:w.heap.size=lb at*;have l1:=qj L s U HT1.o;rw[hir]at l1;have l2:∀m,_:=fun m=>yP L s (U.drewN m) (HT1.o.drewN m) HI.o Dc.o;have l3:∀m,_:=fun m=>Jy L s (U.drewN m) (HT1.o.drewN m) HI.o Dc.o nn (by omega);go_wp2_with (first|(go_at_call 188;refine l1.mono ?_;rintro e w1 ⟨rfl,m1,rfl⟩)|(go_at_call 189;refine(l2 _).mono ?_;rintro e w2 ⟨rfl,m2,rfl⟩;rw[World.drewN_drewN])|(go_at_call 190;refine(l3 _).mono ?_;rintro e w3 ⟨rfl,h3,c3⟩)|(go_at_call 104;refine(iN L _ _ h3 (HI.o.setCur (by rw[qi];exact HI.o.ql)) 0).mono ?_;rintro e w4 ⟨rfl,h4,c4⟩));go_end0;exact⟨rfl,h4,xm.o.trans (own_drewN.trans (c3.trans c4))⟩
  |false=>rw[ai (by simp)];go_enter func112,ntmps112;go_wp2_with fail;go_quiet ((first|(go_at_call 179;exact nH (iA _ _))|(go_at_call 183;exact nH (fQ _ _))));rw[hnn];have HT1:Hid (cO (World.drewN (w.alloc (Obj.cells (aA ev) 46)) nq) L s):=HT.o.drewN nq;have xm:Hid (Ch L.own w (World.drewN (w.alloc (Obj.cells (aA ev) 46)) nq)):=ng.o.drewN nq;have e3':World.cell? (World.drewN (w.alloc (Obj.cells (aA ev) 46)) nq) ⟨w.heap.size,3,none⟩=some (.int .i64 76):=e3;clear e3 e5 e6 HT ng;generalize hU:World.drewN (w.alloc (Obj.cells (aA ev) 46)) nq=U at*;generalize hlb:w.heap.size=lb at*;have l1:=qj L s U HT1.o;rw[hir]at l1;go_wp2_with (go_at_call 188;refine l1.mono ?_;rintro e w1 ⟨rfl,m1,rfl⟩);go_end0;exact⟨rfl,HT1.o.drewN _,xm.o.trans own_drewN⟩
 ·have hX:s.edit 77 p0=if s.inRegion then(s.setCur (FX s.cur s.row.toNat s.below (TS.times p0).toNat s.ah)).bQ 0 else s:=rfl;rw[hnt]at hX;rw[hX];clear hX;cases hir:s.inRegion with
  |true=>
   rw[ak rfl];have hin:s.row≤s.bottom:=by unfold TS.inRegion at hir;have:=pV hir;omega
   have Dc:Hid _:=hin;clear hin;go_enter func112,ntmps112;go_wp2_with fail;go_quiet ((first|(go_at_call 179;exact nH (iA _ _))|(go_at_call 183;exact nH (fQ _ _))));rw[hnn];have HT1:Hid (cO (World.drewN (w.alloc (Obj.cells (aA ev) 46)) nq) L s):=HT.o.drewN nq;have xm:Hid (Ch L.own w (World.drewN (w.alloc (Obj.cells (aA ev) 46)) nq)):=ng.o.drewN nq;have e3':World.cell? (World.drewN (w.alloc (Obj.cells (aA ev) 46)) nq) ⟨w.heap.size,3,none⟩=some (.int .i64 77):=e3;clear e3 e5 e6 HT ng;generalize hU:World.drewN (w.alloc (Obj.cells (aA ev) 46)) nq=U at*;generalize hlb:w.heap.size=lb at*;have l1:=qj L s U HT1.o;rw[hir]at l1;have l2:∀m,_:=fun m=>yP L s (U.drewN m) (HT1.o.drewN m) HI.o Dc.o;have l3:∀m,_:=fun m=>P9 L s (U.drewN m) (HT1.o.drewN m) HI.o Dc.o nn (by omega);go_wp2_with (first|(go_at_call 188;refine l1.mono ?_;rintro e w1 ⟨rfl,m1,rfl⟩)|(go_at_call 189;refine(l2 _).mono ?_;rintro e w2 ⟨rfl,m2,rfl⟩;rw[World.drewN_drewN])|(go_at_call 173;refine(l3 _).mono ?_;rintro e w3 ⟨rfl,h3,c3⟩)|(go_at_call 104;refine(iN L _ _ h3 (HI.o.setCur (by rw[uj];exact HI.o.ql)) 0).mono ?_;rintro e w4 ⟨rfl,h4,c4⟩));go_end0;exact⟨rfl,h4,xm.o.trans (own_drewN.trans (c3.trans c4))⟩
  |false=>rw[ai (by simp)];go_enter func112,ntmps112;go_wp2_with fail;go_quiet ((first|(go_at_call 179;exact nH (iA _ _))|(go_at_call 183;exact nH (fQ _ _))));rw[hnn];have HT1:Hid (cO (World.drewN (w.alloc (Obj.cells (aA ev) 46)) nq) L s):=HT.o.drewN nq;have xm:Hid (Ch L.own w (World.drewN (w.alloc (Obj.cells (aA ev) 46)) nq)):=ng.o.drewN nq;have e3':World.cell? (World.drewN (w.alloc (Obj.cells (aA ev) 46)) nq) ⟨w.heap.size,3,none⟩=some (.int .i64 77):=e3;clear e3 e5 e6 HT ng;generalize hU:World.drewN (w.alloc (Obj.cells (aA ev) 46)) nq=U at*;generalize hlb:w.heap.size=lb at*;have l1:=qj L s U HT1.o;rw[hir]at l1;go_wp2_with (go_at_call 188;refine l1.mono ?_;rintro e w1 ⟨rfl,m1,rfl⟩);go_end0;exact⟨rfl,HT1.o.drewN _,xm.o.trans own_drewN⟩
 ·rw[show s.edit 83 p0=s.gQ (TS.times p0).toNat from rfl,hnt];go_enter func112,ntmps112;go_wp2_with fail;go_quiet ((first|(go_at_call 179;exact nH (iA _ _))|(go_at_call 183;exact nH (fQ _ _))));rw[hnn];have HT1:Hid (cO (World.drewN (w.alloc (Obj.cells (aA ev) 46)) nq) L s):=HT.o.drewN nq;have xm:Hid (Ch L.own w (World.drewN (w.alloc (Obj.cells (aA ev) 46)) nq)):=ng.o.drewN nq;have e3':World.cell? (World.drewN (w.alloc (Obj.cells (aA ev) 46)) nq) ⟨w.heap.size,3,none⟩=some (.int .i64 83):=e3;clear e3 e5 e6 HT ng;generalize hU:World.drewN (w.alloc (Obj.cells (aA ev) 46)) nq=U at*;generalize hlb:w.heap.size=lb at*;have l2:=tZ L s U HT1.o HI.o;have l3:∀m,_:=fun m=>yH L s (U.drewN m) (HT1.o.drewN m) HI.o nn (by omega);go_wp2_with (first|(go_at_call 172;refine l2.mono ?_;rintro e w2 ⟨rfl,m2,rfl⟩)|(go_at_call 173;refine(l3 _).mono ?_;rintro e w3 ⟨rfl,h3,c3⟩));go_end0;exact⟨rfl,h3,xm.o.trans (own_drewN.trans c3)⟩
 ·rw[show s.edit 84 p0=s.h_ (TS.times p0).toNat from rfl,hnt];go_enter func112,ntmps112;go_wp2_with fail;go_quiet ((first|(go_at_call 179;exact nH (iA _ _))|(go_at_call 183;exact nH (fQ _ _))));rw[hnn];have HT1:Hid (cO (World.drewN (w.alloc (Obj.cells (aA ev) 46)) nq) L s):=HT.o.drewN nq;have xm:Hid (Ch L.own w (World.drewN (w.alloc (Obj.cells (aA ev) 46)) nq)):=ng.o.drewN nq;have e3':World.cell? (World.drewN (w.alloc (Obj.cells (aA ev) 46)) nq) ⟨w.heap.size,3,none⟩=some (.int .i64 84):=e3;clear e3 e5 e6 HT ng;generalize hU:World.drewN (w.alloc (Obj.cells (aA ev) 46)) nq=U at*;generalize hlb:w.heap.size=lb at*;have l2:=tZ L s U HT1.o HI.o;have l3:∀m,_:=fun m=>uY L s (U.drewN m) (HT1.o.drewN m) HI.o nn (by omega);go_wp2_with (first|(go_at_call 172;refine l2.mono ?_;rintro e w2 ⟨rfl,m2,rfl⟩)|(go_at_call 190;refine(l3 _).mono ?_;rintro e w3 ⟨rfl,h3,c3⟩));go_end0;exact⟨rfl,h3,xm.o.trans (own_drewN.trans c3)⟩
 ·have e:s.edit f p0=s:=by unfold TS.edit;simp only[ai (show¬f=74 by omega),ai (show¬f=75 by omega),ai (show¬f=64 by omega),ai (show¬f=80 by omega),ai (show¬f=88 by omega),ai (show¬f=76 by omega),ai (show¬f=77 by omega),ai (show¬f=83 by omega),ai (show¬f=84 by omega)]
  rw[e];have b74:(f==74)=false:=by simp;omega
  have b75:(f==75)=false:=by simp;omega
  have b64:(f==64)=false:=by simp;omega
  have b80:(f==80)=false:=by simp;omega
  have b88:(f==88)=false:=by simp;omega
  have b76:(f==76)=false:=by simp;omega
  have b77:(f==77)=false:=by simp;omega
  have b83:(f==83)=false:=by simp;omega
  have b84:(f==84)=false:=by simp;omega
  clear e hf;go_enter func112,ntmps112;go_wp2_with fail;go_quiet ((first|(go_at_call 179;exact nH (iA _ _))|(go_at_call 183;exact nH (fQ _ _))));rw[hnn];have HT1:Hid (cO (World.drewN (w.alloc (Obj.cells (aA ev) 46)) nq) L s):=HT.o.drewN nq;have xm:Hid (Ch L.own w (World.drewN (w.alloc (Obj.cells (aA ev) 46)) nq)):=ng.o.drewN nq;have e3':World.cell? (World.drewN (w.alloc (Obj.cells (aA ev) 46)) nq) ⟨w.heap.size,3,none⟩=some (.int .i64 f):=e3;clear e3 e5 e6 HT ng;generalize hU:World.drewN (w.alloc (Obj.cells (aA ev) 46)) nq=U at*;generalize hlb:w.heap.size=lb at*;go_wp2_with fail;go_end0;exact⟨rfl,HT1.o,xm.o⟩
theorem TS.Inv.gU{s:TS}(h:s.Inv)(top bottom:Int)(h0:0≤top):(s.gU top bottom).Inv:=by
 unfold TS.gU;dsimp only;generalize hb:(if bottom<0∨(s.rows:Int)-1<bottom then(s.rows:Int)-1 else bottom)=b;have hb1:b<(s.rows:Int):=by split at hb<;>omega
 split
 ·exact h
 ·exact TS.Inv.home (h.upd rfl rfl rfl rfl rfl rfl rfl h.row0 h.jK h.jA h.jD h0 (by show top≤b;omega) hb1 h.sh)
theorem CK(L:Lay)(s:TS)(w:World)(ht:cO w L s)(hi:s.Inv)(top bottom:Int)(h0:0≤top):Calls prog 191 #[.pointer (some ⟨L.tb,0,none⟩),.int .i64 top,.int .i64 bottom] w fun e w'=>e= .returned (.tuple #[])∧cO w' L (s.gU top bottom)∧Ch L.own w w':=by
 have l1:=rA L s w ht hi;have c38:=ht.c 38 _ rfl;have f38:=ht.f 38;have c39:=ht.c 39 _ rfl;have f39:=ht.f 39;have HT:Hid _:=ht;have HI:Hid s.Inv:=hi;have hX:s.gU top bottom=if(if bottom<0∨(s.rows:Int)-1<bottom then(s.rows:Int)-1 else bottom)≤top then s else({s with top:=top,bottom:=(if bottom<0∨(s.rows:Int)-1<bottom then(s.rows:Int)-1 else bottom)}:TS).home:=rfl;generalize s.gU top bottom=X at*;have lh:∀b,¬b≤top→b<(s.rows:Int)→∀u,cO u L {s with top:=top,bottom:=b}→_:=fun b hb hb2 u hu=>G5 L {s with top:=top,bottom:=b} u hu (hi.upd rfl rfl rfl rfl rfl rfl rfl hi.row0 hi.jK hi.jA hi.jD h0 (by show top≤b;omega) hb2 hi.sh);have st:∀b,cO ((w.setCell ⟨L.tb,38,none⟩ (.int .i64 top)).setCell ⟨L.tb,39,none⟩ (.int .i64 b)) L {s with top:=top,bottom:=b}:=fun b=>(ht.set (s':={s with top:=top}) 38 (.int .i64 top) rfl rfl rfl rfl rfl).set 39 (.int .i64 b) rfl rfl rfl rfl rfl;have CC:∀b,Ch L.own w ((w.setCell ⟨L.tb,38,none⟩ (.int .i64 top)).setCell ⟨L.tb,39,none⟩ (.int .i64 b)):=fun b=>((Ch.refl _ _).nJ _ _).nJ _ _;have hr1:=hi.r1;clear ht hi;by_cases hb0:bottom<0
 ·rw[ak (Or.inl hb0)]at hX;by_cases hq:(s.rows:Int)-1≤top
  ·rw[ak hq]at hX;have HX:Hid _:=hX;clear hX;go_enter func191,ntmps191;go_wp2_with (go_at_call 154;refine l1.mono ?_;rintro e w1 ⟨rfl,hw1⟩;have hw2:=hw1.symm;subst hw2);exact bX (dz results191 _ _ _) rfl ⟨rfl,by rw[HX.o];exact HT.o,Ch.refl _ _⟩
  ·rw[ai hq]at hX;have HX:Hid _:=hX;have dq:decide ((s.rows:Int)-1≤top)=false:=by simp;omega
   have l2:=lh ((s.rows:Int)-1) hq (by omega) _ (st _);clear hX lh;go_enter func191,ntmps191;go_wp2_with (first|(go_at_call 154;refine l1.mono ?_;rintro e w1 ⟨rfl,hw1⟩;have hw2:=hw1.symm;subst hw2)|(go_at_call 194;refine l2.mono ?_;rintro e w2 ⟨rfl,h2,c2⟩));go_end0;exact⟨rfl,by rw[HX.o];exact h2,(CC _).trans c2⟩
 ·by_cases hb1:(s.rows:Int)-1<bottom
  ·rw[ak (Or.inr hb1)]at hX;have d0:decide (bottom<0)=false:=by simp;omega
   by_cases hq:(s.rows:Int)-1≤top
   ·rw[ak hq]at hX;have HX:Hid _:=hX;clear hX;go_enter func191,ntmps191;go_wp2_with (go_at_call 154;refine l1.mono ?_;rintro e w1 ⟨rfl,hw1⟩;have hw2:=hw1.symm;subst hw2);exact bX (dz results191 _ _ _) rfl ⟨rfl,by rw[HX.o];exact HT.o,Ch.refl _ _⟩
   ·rw[ai hq]at hX;have HX:Hid _:=hX;have dq:decide ((s.rows:Int)-1≤top)=false:=by simp;omega
    have l2:=lh ((s.rows:Int)-1) hq (by omega) _ (st _);clear hX lh;go_enter func191,ntmps191;go_wp2_with (first|(go_at_call 154;refine l1.mono ?_;rintro e w1 ⟨rfl,hw1⟩;have hw2:=hw1.symm;subst hw2)|(go_at_call 194;refine l2.mono ?_;rintro e w2 ⟨rfl,h2,c2⟩));go_end0;exact⟨rfl,by rw[HX.o];exact h2,(CC _).trans c2⟩
  ·rw[ai (show¬(bottom<0∨(s.rows:Int)-1<bottom) by omega)]at hX;have d0:decide (bottom<0)=false:=by simp;omega
   have d1:decide ((s.rows:Int)-1<bottom)=false:=by simp;omega
   by_cases hq:bottom≤top
   ·rw[ak hq]at hX;have HX:Hid _:=hX;clear hX;go_enter func191,ntmps191;go_wp2_with (go_at_call 154;refine l1.mono ?_;rintro e w1 ⟨rfl,hw1⟩;have hw2:=hw1.symm;subst hw2);exact bX (dz results191 _ _ _) rfl ⟨rfl,by rw[HX.o];exact HT.o,Ch.refl _ _⟩
   ·rw[ai hq]at hX;have HX:Hid _:=hX;have dq:decide (bottom≤top)=false:=by simp;omega
    have l2:=lh (bottom) hq (by omega) _ (st _);clear hX lh;go_enter func191,ntmps191;go_wp2_with (first|(go_at_call 154;refine l1.mono ?_;rintro e w1 ⟨rfl,hw1⟩;have hw2:=hw1.symm;subst hw2)|(go_at_call 194;refine l2.mono ?_;rintro e w2 ⟨rfl,h2,c2⟩));go_end0;exact⟨rfl,by rw[HX.o];exact h2,(CC _).trans c2⟩
theorem iX{fn:Func}{p:Tmp}(h:fn.results= #[.cell p 80])(tmps:Array Value)(w:World)(g:Nat)(c:fO)(t:TypeId)(fr:Nat × Nat)(hp:tmps.getD p undef= .pointer (some ⟨g,0,none⟩))(hg:w.heap[g]? =some (.cells (aW c) t fr)):(results fn tmps).run prog w= .ok (.agg (aW c)) w:=
 results_cell_row h tmps w g t (aW c) fr _ hp hg underlying80 rfl (by exact lU)
theorem nS(w:World)(a b:Obj):((w.alloc a).alloc b).heap[w.heap.size+1]? =some b:=by
 have hs:(w.alloc a).heap.size=w.heap.size+1:=by simp
 rw[←hs];exact bV _ _
theorem IL(p:fO)(n:Int)(w:World)(hn:0≤n∧n≤70000):Calls prog 193 #[.agg (aW p),.int .i64 n] w fun e w'=>e= .returned (.agg (aW (TS.turn p n)))∧Below w.heap.size w w':=by
 change Calls prog 193 #[.agg #[.bool p.b,.bool p.u,.bool p.t,.int .i64 p.f,.int .i64 p.k],.int .i64 n] w _;generalize hX:TS.turn p n=X;unfold TS.turn at hX;by_cases h0:n=0
 ·subst h0;have HX:Hid (mO=X):=by rw[←hX];rfl
  clear hX;go_enter func193,ntmps193;go_wp2_with fail
  all_goals refine bX (iX results193 _ _ (w.heap.size+1) X 80 (0,0) (by simp) ?_) rfl ⟨rfl,((dU _ _).alloc (bN _) _).alloc (by simp) _⟩
  all_goals rw[←HX.o];exact nS _ _ _
 by_cases h1:n=1
 ·subst h1;have HX:Hid ({p with b:=true}=X):=by rw[←hX];rfl
  clear hX;go_enter func193,ntmps193;go_wp2_with fail
  all_goals refine bX (iX results193 _ _ (w.heap.size+1) X 80 (0,0) (by simp) ?_) rfl ⟨rfl,((dU _ _).alloc (bN _) _).alloc (by simp) _⟩
  all_goals rw[←HX.o];exact nS _ _ _
 by_cases h22:n=22
 ·subst h22;have HX:Hid ({p with b:=false}=X):=by rw[←hX];rfl
  clear hX;go_enter func193,ntmps193;go_wp2_with fail
  all_goals refine bX (iX results193 _ _ (w.heap.size+1) X 80 (0,0) (by simp) ?_) rfl ⟨rfl,((dU _ _).alloc (bN _) _).alloc (by simp) _⟩
  all_goals rw[←HX.o];exact nS _ _ _
 by_cases h4:n=4
 ·subst h4;have HX:Hid ({p with u:=true}=X):=by rw[←hX];rfl
  clear hX;go_enter func193,ntmps193;go_wp2_with fail
  all_goals refine bX (iX results193 _ _ (w.heap.size+1) X 80 (0,0) (by simp) ?_) rfl ⟨rfl,((dU _ _).alloc (bN _) _).alloc (by simp) _⟩
  all_goals rw[←HX.o];exact nS _ _ _
 by_cases h24:n=24
 ·subst h24;have HX:Hid ({p with u:=false}=X):=by rw[←hX];rfl
  clear hX;go_enter func193,ntmps193;go_wp2_with fail
  all_goals refine bX (iX results193 _ _ (w.heap.size+1) X 80 (0,0) (by simp) ?_) rfl ⟨rfl,((dU _ _).alloc (bN _) _).alloc (by simp) _⟩
  all_goals rw[←HX.o];exact nS _ _ _
 by_cases h7:n=7
 ·subst h7;have HX:Hid ({p with t:=true}=X):=by rw[←hX];rfl
  clear hX;go_enter func193,ntmps193;go_wp2_with fail
  all_goals refine bX (iX results193 _ _ (w.heap.size+1) X 80 (0,0) (by simp) ?_) rfl ⟨rfl,((dU _ _).alloc (bN _) _).alloc (by simp) _⟩
  all_goals rw[←HX.o];exact nS _ _ _
 by_cases h27:n=27
 ·subst h27;have HX:Hid ({p with t:=false}=X):=by rw[←hX];rfl
  clear hX;go_enter func193,ntmps193;go_wp2_with fail
  all_goals refine bX (iX results193 _ _ (w.heap.size+1) X 80 (0,0) (by simp) ?_) rfl ⟨rfl,((dU _ _).alloc (bN _) _).alloc (by simp) _⟩
  all_goals rw[←HX.o];exact nS _ _ _
 by_cases h39:n=39
 ·subst h39;have HX:Hid ({p with f:=0}=X):=by rw[←hX];rfl
  clear hX;go_enter func193,ntmps193;go_wp2_with fail
  all_goals refine bX (iX results193 _ _ (w.heap.size+1) X 80 (0,0) (by simp) ?_) rfl ⟨rfl,((dU _ _).alloc (bN _) _).alloc (by simp) _⟩
  all_goals rw[←HX.o];exact nS _ _ _
 by_cases h49:n=49
 ·subst h49;have HX:Hid ({p with k:=0}=X):=by rw[←hX];rfl
  clear hX;go_enter func193,ntmps193;go_wp2_with fail
  all_goals refine bX (iX results193 _ _ (w.heap.size+1) X 80 (0,0) (by simp) ?_) rfl ⟨rfl,((dU _ _).alloc (bN _) _).alloc (by simp) _⟩
  all_goals rw[←HX.o];exact nS _ _ _
 have b0:(n==0)=false:=by simp[h0]
 have b1:(n==1)=false:=by simp[h1]
 have b22:(n==22)=false:=by simp[h22]
 have b4:(n==4)=false:=by simp[h4]
 have b24:(n==24)=false:=by simp[h24]
 have b7:(n==7)=false:=by simp[h7]
 have b27:(n==27)=false:=by simp[h27]
 have b39:(n==39)=false:=by simp[h39]
 have b49:(n==49)=false:=by simp[h49]
 rw[ai h0,ai (show¬(n=1∨n=22) by omega),ai (show¬(n=4∨n=24) by omega),ai (show¬(n=7∨n=27) by omega)]at hX;by_cases r1:30≤n∧n≤37
 ·rw[ak r1]at hX;have HX:Hid _:=hX;obtain⟨r1a,r1b⟩:=r1;have v1:IntKind.i64.wrap (n-29)=n-29:=bD _ (by omega);clear hX h0 h1 h22 h4 h24 h7 h27 h39 h49;go_enter func193,ntmps193;go_wp2_with fail
  all_goals refine bX (iX results193 _ _ (w.heap.size+1) X 80 (0,0) (by simp) ?_) rfl ⟨rfl,((dU _ _).alloc (bN _) _).alloc (by simp) _⟩
  all_goals rw[←HX.o];exact nS _ _ _
 ·rw[ai r1,ai h39]at hX;by_cases r2:40≤n∧n≤47
  ·rw[ak r2]at hX;have HX:Hid _:=hX;obtain⟨r2a,r2b⟩:=r2;have d1:decide (n≤37)=false:=by simp;omega
   have d1':decide (30≤n)=true:=by simp;omega
   have d1'':30≤n:=by omega
   have v1:IntKind.i64.wrap (n-39)=n-39:=bD _ (by omega);clear hX h0 h1 h22 h4 h24 h7 h27 h39 h49;go_enter func193,ntmps193;go_wp2_with fail
   all_goals refine bX (iX results193 _ _ (w.heap.size+1) X 80 (0,0) (by simp) ?_) rfl ⟨rfl,((dU _ _).alloc (bN _) _).alloc (by simp) _⟩
   all_goals rw[←HX.o];exact nS _ _ _
  ·rw[ai r2,ai h49]at hX;have HX:Hid _:=hX;clear hX h0 h1 h22 h4 h24 h7 h27;rcases(show n<30∨(37<n∧n<40)∨47<n by omega)with q|q|q
   ·have d1:decide (30≤n)=false:=by simp;omega
    have d2:decide (40≤n)=false:=by simp;omega
    clear r1 r2 h39 h49;go_enter func193,ntmps193;go_wp2_with fail
    all_goals refine bX (iX results193 _ _ (w.heap.size+1) X 80 (0,0) (by simp) ?_) rfl ⟨rfl,((dU _ _).alloc (bN _) _).alloc (by simp) _⟩
    all_goals rw[←HX.o];exact nS _ _ _
   ·have d1:decide (30≤n)=true:=by simp;omega
    have d1':decide (n≤37)=false:=by simp;omega
    have d1'':30≤n:=by omega
    have d2:decide (40≤n)=false:=by simp;omega
    clear r1 r2 h39 h49;go_enter func193,ntmps193;go_wp2_with fail
    all_goals refine bX (iX results193 _ _ (w.heap.size+1) X 80 (0,0) (by simp) ?_) rfl ⟨rfl,((dU _ _).alloc (bN _) _).alloc (by simp) _⟩
    all_goals rw[←HX.o];exact nS _ _ _
   ·have d1:decide (30≤n)=true:=by simp;omega
    have d1':decide (n≤37)=false:=by simp;omega
    have d1'':30≤n:=by omega
    have d2'':40≤n:=by omega
    have d2:decide (40≤n)=true:=by simp;omega
    have d2':decide (n≤47)=false:=by simp;omega
    clear r1 r2 h39 h49;go_enter func193,ntmps193;go_wp2_with fail
    all_goals refine bX (iX results193 _ _ (w.heap.size+1) X 80 (0,0) (by simp) ?_) rfl ⟨rfl,((dU _ _).alloc (bN _) _).alloc (by simp) _⟩
    all_goals rw[←HX.o];exact nS _ _ _
end Go.Proofs.YtheibfffilomcaaGreatDoor
