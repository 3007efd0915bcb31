import Derived.Test.YtheibfffilomcabGreatDoorEvnU
import Derived.Test.YtheibfffilomcabGreatDoorTqU
set_option linter.all false
set_option maxRecDepth 100000
set_option maxHeartbeats 2000000
namespace Go.Proofs.YtheibfffilomcabGreatDoor
open Go.RowKit Go.Proofs.Tryz
variable {s:TS}
theorem NY(L:Lay)(s:TS)(u:World)(ht:a_ u L s)(hi:s.Inv)(hin:s.row≤s.bottom)(n:Nat)(hn:1≤n∧n≤70000):Calls prog 171 #[.slice (some ⟨L.sb s,s.row.toNat,none⟩) s.below (s.rows-s.row.toNat),.int .i64 (n:Int)] u fun e w'=>e= .returned (.tuple #[])∧a_ w' L (s.setCur (MJ s.cur s.row.toNat s.below n s.aa))∧Ch L.own u w':=by obtain⟨h1,h2,h3⟩:=Ee hi hin;have:=hi.r2;have:=hi.c2;exact(Qa (L.sb s) s.row.toNat s.below n (s.rows-s.row.toNat) s.aa (L.gs s) s.cur u ht.cur (by rw[hi.nW];exact h1) h2 (by omega) hn.2 hn.1 (by omega) h3).mono fun e w' h=>⟨h.1,ht.setCur h.2.2 h.2.1,Ey h.2.2⟩
theorem GN(L:Lay)(s:TS)(u:World)(ht:a_ u L s)(hi:s.Inv)(hin:s.row≤s.bottom)(n:Nat)(hn:1≤n∧n≤70000):Calls prog 188 #[.slice (some ⟨L.sb s,s.row.toNat,none⟩) s.below (s.rows-s.row.toNat),.int .i64 (n:Int)] u fun e w'=>e= .returned (.tuple #[])∧a_ w' L (s.setCur (oJ s.cur s.row.toNat s.below n s.aa))∧Ch L.own u w':=by obtain⟨h1,h2,h3⟩:=Ee hi hin;have:=hi.r2;have:=hi.c2;exact(En (L.sb s) s.row.toNat s.below n (s.rows-s.row.toNat) s.aa (L.gs s) s.cur u ht.cur (by rw[hi.nW];exact h1) h2 (by omega) hn.2 hn.1 (by omega) h3).mono fun e w' h=>⟨h.1,ht.setCur h.2.2 h.2.1,Ey h.2.2⟩
theorem TS.Inv.dA(h:s.Inv)(what:Int):(s.dA what).Inv:=by
 unfold TS.dA;split
 ·exact h.aI _
 ·split
  ·exact h.aI _
  ·split
   ·exact h.aI _
   ·exact h
theorem Og(L:Lay)(s:TS)(w:World)(ht:a_ w L s)(hi:s.Inv)(ev:List Int)(hev:ev.length=21)(h5: -1≤ev.getD 5 0∧ev.getD 5 0≤65535):Calls prog 135 #[.pointer (some ⟨L.tb,0,none⟩),.agg (aO ev)] w fun e w'=>e= .returned (.tuple #[])∧a_ w' L (s.edit (ev.getD 3 0) (ev.getD 5 0))∧Ch L.own w w':=by
 have HT0:=ht.sm ((Ch.refl (fun _=>False) w).alloc (.cells (aO ev) 92));have e3:(w.alloc (.cells (aO ev) 92)).cell? ⟨w.heap.size,3,none⟩=some (.int .i64 (ev.getD 3 0)):=gT (bJ _ _) (by omega);have e5:(w.alloc (.cells (aO ev) 92)).cell? ⟨w.heap.size,5,none⟩=some (.int .i64 (ev.getD 5 0)):=gT (bJ _ _) (by omega);have e6:(w.alloc (.cells (aO ev) 92)).cell? ⟨w.heap.size,6,none⟩=some (.int .i64 (ev.getD 6 0)):=gT (bJ _ _) (by omega);have jA:Hid (Ch L.own w (w.alloc (.cells (aO ev) 92))):=(Ch.refl _ _).alloc _;have hlt:=ht.lt;generalize ev.getD 3 0=f at*;generalize ev.getD 5 0=p0 at*;generalize ev.getD 6 0=p1 at*;have HI:Hid s.Inv:=hi;have HT:Hid _:=HT0;obtain⟨nn,hnn⟩:∃nn:Nat,TS.times p0=(nn:Int):=⟨(TS.times p0).toNat,by unfold TS.times;omega⟩;have hn:1≤nn∧nn≤65535:=by unfold TS.times at hnn;omega
 have hnt:(TS.times p0).toNat=nn:=by rw[hnn];rfl
 obtain⟨cc,hcc⟩:∃cc:Nat,s.col=(cc:Int):=⟨s.col.toNat,by have:=hi.fU;omega⟩;have hcl:cc<s.aa:=by have:=hi.gz;omega
 have hcn:s.col.toNat=cc:=by rw[hcc];rfl
 have hc2:=hi.c2;clear ht hi HT0;rcases(show f=74∨f=75∨f=64∨f=80∨f=88∨f=76∨f=77∨f=83∨f=84∨¬(f=74∨f=75∨f=64∨f=80∨f=88∨f=76∨f=77∨f=83∨f=84) by omega)with rfl|rfl|rfl|rfl|rfl|rfl|rfl|rfl|rfl|hf
 ·rw[show s.edit 74 p0=(s.dA (TS.amount p0)).dD (TS.amount p0) from rfl];go_enter func135,ntmps135;go_wp2_with fail;go_quiet ((first|(go_at_call 177;exact kQ (dY _ _))|(go_at_call 181;exact kQ (dw _ _))));rw[hnn];have HT1:Hid (a_ (World.drewN (w.alloc (Obj.cells (aO ev) 92)) nq) L s):=HT.o.drewN nq;have xK:Hid (Ch L.own w (World.drewN (w.alloc (Obj.cells (aO ev) 92)) nq)):=jA.o.drewN nq;have e3':World.cell? (World.drewN (w.alloc (Obj.cells (aO ev) 92)) nq) ⟨w.heap.size,3,none⟩=some (.int .i64 74):=e3;clear e3 e5 e6 HT jA;generalize hU:World.drewN (w.alloc (Obj.cells (aO ev) 92)) nq=U at*;generalize hlb:w.heap.size=lb at*;go_wp2_with (first|(go_at_call 182;refine(uA L s U HT1.o HI.o (TS.amount p0)).mono ?_;rintro e w1 ⟨rfl,h1,c1⟩)|(go_at_call 183;refine(yK L (s.dA (TS.amount p0)) _ h1 (HI.o.dA _) (TS.amount p0)).mono ?_;rintro e w2 ⟨rfl,h2,c2⟩));go_end0;exact⟨rfl,h2,xK.o.trans (c1.trans c2)⟩
 ·rw[show s.edit 75 p0=s.dA (TS.amount p0) from rfl];go_enter func135,ntmps135;go_wp2_with fail;go_quiet ((first|(go_at_call 177;exact kQ (dY _ _))|(go_at_call 181;exact kQ (dw _ _))));rw[hnn];have HT1:Hid (a_ (World.drewN (w.alloc (Obj.cells (aO ev) 92)) nq) L s):=HT.o.drewN nq;have xK:Hid (Ch L.own w (World.drewN (w.alloc (Obj.cells (aO ev) 92)) nq)):=jA.o.drewN nq;have e3':World.cell? (World.drewN (w.alloc (Obj.cells (aO ev) 92)) nq) ⟨w.heap.size,3,none⟩=some (.int .i64 75):=e3;clear e3 e5 e6 HT jA;generalize hU:World.drewN (w.alloc (Obj.cells (aO ev) 92)) nq=U at*;generalize hlb:w.heap.size=lb at*;go_wp2_with (go_at_call 182;refine(uA L s U HT1.o HI.o (TS.amount p0)).mono ?_;rintro e w1 ⟨rfl,h1,c1⟩);go_end0;exact⟨rfl,h1,xK.o.trans c1⟩
 ·rw[show s.edit 64 p0=s.aI (fQ s.aY s.col.toNat (TS.times p0).toNat) from rfl,hcn,hnt];go_enter func135,ntmps135;go_wp2_with fail;go_quiet ((first|(go_at_call 177;exact kQ (dY _ _))|(go_at_call 181;exact kQ (dw _ _))));rw[hnn];have HT1:Hid (a_ (World.drewN (w.alloc (Obj.cells (aO ev) 92)) nq) L s):=HT.o.drewN nq;have xK:Hid (Ch L.own w (World.drewN (w.alloc (Obj.cells (aO ev) 92)) nq)):=jA.o.drewN nq;have e3':World.cell? (World.drewN (w.alloc (Obj.cells (aO ev) 92)) nq) ⟨w.heap.size,3,none⟩=some (.int .i64 64):=e3;clear e3 e5 e6 HT jA;generalize hU:World.drewN (w.alloc (Obj.cells (aO ev) 92)) nq=U at*;generalize hlb:w.heap.size=lb at*;go_wp2_with fail;obtain⟨g,hg,hrow,hlen⟩:=HT1.o.Ab HI.o;have oD:a_ ({U with drawn:=World.drawn U+1}:World) L s:=HT1.o.sm ((Ch.refl _ _).drewN 1);have HH:World.cell? ({U with drawn:=World.drawn U+1}:World) ⟨L.tb,27,none⟩=some (.int .i64 (cc:Int)):=by rw[←hcc];exact oD.c 27 _ rfl
  have HG:Hid _:=hg;have HRW:Hid (aK (U) g s.aY):=hrow;have nu:Hid _:=hlen;clear hg hrow hlen;refine fJ (S:=fun x=>x.cell? ⟨L.tb,27,none⟩=some (.int .i64 (cc:Int))) bI ?_;refine aL 0 2 3 4 HH ?_;simp only[ah,ag];refine aL 5 6 7 8 HH ?_;simp only[ah,ag];refine aD 1 ?_;refine d_ (vs:=[.pointer (some ⟨L.tb,0,none⟩)]) (kG L s _ oD HI.o g HG.o) ?_;rintro v2 w2 ⟨rfl,mm,rfl⟩;refine⟨HH,?_⟩;simp only[ah,ag];refine aD 9 ?_;refine bR (vs:=[.slice (some ⟨g,0,none⟩) s.aa s.aa,.int .i64 (cc:Int),.int .i64 (nn:Int)]) (R:=fun v w'=>v= .tuple #[]∧aK w' g (fQ s.aY cc nn)∧Ch (· =g) (U) w') ((yX g cc nn s.aa s.aY (World.drewN ({U with drawn:=World.drawn U+1}:World) mm) HRW.o nu.o hcl (by omega) (by omega)).mono fun e w' h=>⟨_,h.1,rfl,h.2.1,⟨h.2.2.os,h.2.2.tape,h.2.2.output,h.2.2.size,h.2.2.block⟩⟩) ?_;rintro v3 U2 ⟨rfl,r2,k2⟩;have T2:a_ U2 L (s.aI (fQ s.aY cc nn)):=HT1.o.aI HG.o r2 (by rw[mQ _ _ _ (by rw[nu.o];omega)];exact nu.o) k2;have hne:L.tb≠g:=HT1.o.pX HG.o;have hbk:=k2.block L.tb HT1.o.lt hne;refine⟨(eT hbk).trans HH,?_⟩;simp only[ah,ag];have oz:Hid (Ch L.own (U) U2):=k2.mono fun k _ e=>e▸Lay.mO (fu HG.o);have HT2:Hid _:=T2;clear T2 r2 k2 hne hbk HG HRW nu oD HH;refine aM ?_;go_wp2_with fail;go_end0;exact⟨rfl,HT2.o,xK.o.trans oz.o⟩
 ·rw[show s.edit 80 p0=s.aI (iI s.aY s.col.toNat (TS.times p0).toNat) from rfl,hcn,hnt];go_enter func135,ntmps135;go_wp2_with fail;go_quiet ((first|(go_at_call 177;exact kQ (dY _ _))|(go_at_call 181;exact kQ (dw _ _))));rw[hnn];have HT1:Hid (a_ (World.drewN (w.alloc (Obj.cells (aO ev) 92)) nq) L s):=HT.o.drewN nq;have xK:Hid (Ch L.own w (World.drewN (w.alloc (Obj.cells (aO ev) 92)) nq)):=jA.o.drewN nq;have e3':World.cell? (World.drewN (w.alloc (Obj.cells (aO ev) 92)) nq) ⟨w.heap.size,3,none⟩=some (.int .i64 80):=e3;clear e3 e5 e6 HT jA;generalize hU:World.drewN (w.alloc (Obj.cells (aO ev) 92)) nq=U at*;generalize hlb:w.heap.size=lb at*;go_wp2_with fail;obtain⟨g,hg,hrow,hlen⟩:=HT1.o.Ab HI.o;have oD:a_ ({U with drawn:=World.drawn U+1}:World) L s:=HT1.o.sm ((Ch.refl _ _).drewN 1);have HH:World.cell? ({U with drawn:=World.drawn U+1}:World) ⟨L.tb,27,none⟩=some (.int .i64 (cc:Int)):=by rw[←hcc];exact oD.c 27 _ rfl
  have HG:Hid _:=hg;have HRW:Hid (aK (U) g s.aY):=hrow;have nu:Hid _:=hlen;clear hg hrow hlen;refine fJ (S:=fun x=>x.cell? ⟨L.tb,27,none⟩=some (.int .i64 (cc:Int))) bI ?_;refine aL 0 2 3 4 HH ?_;simp only[ah,ag];refine aL 5 6 7 8 HH ?_;simp only[ah,ag];refine aD 1 ?_;refine d_ (vs:=[.pointer (some ⟨L.tb,0,none⟩)]) (kG L s _ oD HI.o g HG.o) ?_;rintro v2 w2 ⟨rfl,mm,rfl⟩;refine⟨HH,?_⟩;simp only[ah,ag];refine aD 9 ?_;refine bR (vs:=[.slice (some ⟨g,0,none⟩) s.aa s.aa,.int .i64 (cc:Int),.int .i64 (nn:Int)]) (R:=fun v w'=>v= .tuple #[]∧aK w' g (iI s.aY cc nn)∧Ch (· =g) (U) w') ((Ij g cc nn s.aa s.aY (World.drewN ({U with drawn:=World.drawn U+1}:World) mm) HRW.o nu.o hcl (by omega) (by omega) (by omega)).mono fun e w' h=>⟨_,h.1,rfl,h.2.1,⟨h.2.2.os,h.2.2.tape,h.2.2.output,h.2.2.size,h.2.2.block⟩⟩) ?_;rintro v3 U2 ⟨rfl,r2,k2⟩;have T2:a_ U2 L (s.aI (iI s.aY cc nn)):=HT1.o.aI HG.o r2 (by rw[qX _ _ _ (by rw[nu.o];omega)];exact nu.o) k2;have hne:L.tb≠g:=HT1.o.pX HG.o;have hbk:=k2.block L.tb HT1.o.lt hne;refine⟨(eT hbk).trans HH,?_⟩;simp only[ah,ag];have oz:Hid (Ch L.own (U) U2):=k2.mono fun k _ e=>e▸Lay.mO (fu HG.o);have HT2:Hid _:=T2;clear T2 r2 k2 hne hbk HG HRW nu oD HH;refine aM ?_;go_wp2_with fail;go_end0;exact⟨rfl,HT2.o,xK.o.trans oz.o⟩
 ·rw[show s.edit 88 p0=s.aI (fK s.aY s.col.toNat (min (s.col.toNat+(TS.times p0).toNat) s.aa)) from rfl,hcn,hnt];have v1:IntKind.i64.wrap ((cc:Int)+(nn:Int))=(cc:Int)+(nn:Int):=bV _ (by omega);by_cases hmn:cc+nn≤s.aa
  ·rw[yl hmn];have m1:(cc:Int)+(nn:Int)≤(s.aa:Int):=by omega
   have m2:¬(s.aa:Int)<(cc:Int)+(nn:Int):=by omega
   go_enter func135,ntmps135;go_wp2_with fail;go_quiet ((first|(go_at_call 177;exact kQ (dY _ _))|(go_at_call 181;exact kQ (dw _ _))));rw[hnn];have HT1:Hid (a_ (World.drewN (w.alloc (Obj.cells (aO ev) 92)) nq) L s):=HT.o.drewN nq;have xK:Hid (Ch L.own w (World.drewN (w.alloc (Obj.cells (aO ev) 92)) nq)):=jA.o.drewN nq;have e3':World.cell? (World.drewN (w.alloc (Obj.cells (aO ev) 92)) nq) ⟨w.heap.size,3,none⟩=some (.int .i64 88):=e3;clear e3 e5 e6 HT jA;generalize hU:World.drewN (w.alloc (Obj.cells (aO ev) 92)) nq=U at*;generalize hlb:w.heap.size=lb at*;go_wp2_with fail;obtain⟨g,hg,hrow,hlen⟩:=HT1.o.Ab HI.o;have oD:a_ ({U with drawn:=World.drawn U+1}:World) L s:=HT1.o.sm ((Ch.refl _ _).drewN 1);have HH:World.cell? ({U with drawn:=World.drawn U+1}:World) ⟨L.tb,27,none⟩=some (.int .i64 (cc:Int))∧World.cell? ({U with drawn:=World.drawn U+1}:World) ⟨L.tb,43,none⟩=some (.slice (some ⟨L.gb,0,none⟩) s.aa s.aa):=⟨by rw[←hcc];exact oD.c 27 _ rfl,oD.c 43 _ rfl⟩;have HG:Hid _:=hg;have HRW:Hid (aK (U) g s.aY):=hrow;have nu:Hid _:=hlen;clear hg hrow hlen;refine fJ (S:=fun x=>x.cell? ⟨L.tb,27,none⟩=some (.int .i64 (cc:Int))∧x.cell? ⟨L.tb,43,none⟩=some (.slice (some ⟨L.gb,0,none⟩) s.aa s.aa)) bI ?_;refine aL 0 2 3 4 HH ?_;simp only[ah,ag];refine aL 5 6 7 8 HH ?_;simp only[ah,ag];refine aL 9 10 11 12 HH ?_;simp only[ah,ag];refine g_ 13 14 HH ?_;refine ak 15 HH ?_ (v:=.int .i64 ((cc:Int)+(nn:Int)));refine ak 16 HH ?_;simp only[ah,ag];refine iC 17 18 19 HH ?_;refine ak 20 HH ?_ (v:=.int .i64 (s.aa:Int));simp only[ah,ag];refine ak 21 HH ?_ (v:=.int .i64 ((cc:Int)+(nn:Int)));simp only[ah,ag];refine aD 1 ?_;refine d_ (vs:=[.pointer (some ⟨L.tb,0,none⟩)]) (kG L s _ oD HI.o g HG.o) ?_;rintro v2 w2 ⟨rfl,mm,rfl⟩;refine⟨HH,?_⟩;simp only[ah,ag];refine aD 22 ?_;refine bR (vs:=[.slice (some ⟨g,0,none⟩) s.aa s.aa,.int .i64 (cc:Int),.int .i64 ((cc+nn:Nat):Int)]) (R:=fun v w'=>v= .tuple #[]∧aK w' g (fK s.aY cc (cc+nn))∧Ch (· =g) (U) w') ((oI g cc (cc+nn) s.aa s.aY (World.drewN ({U with drawn:=World.drawn U+1}:World) mm) HRW.o nu.o (by omega) (by omega) (by omega)).mono fun e w' h=>⟨_,h.1,rfl,h.2.1,⟨h.2.2.os,h.2.2.tape,h.2.2.output,h.2.2.size,h.2.2.block⟩⟩) ?_;rintro v3 U2 ⟨rfl,r2,k2⟩;have T2:a_ U2 L (s.aI (fK s.aY cc (cc+nn))):=HT1.o.aI HG.o r2 (by rw[iA _ _ _ (by rw[nu.o];omega) (by omega)];exact nu.o) k2;have hne:L.tb≠g:=HT1.o.pX HG.o;have hbk:=k2.block L.tb HT1.o.lt hne;refine⟨⟨(eT hbk).trans HH.1,(eT hbk).trans HH.2⟩,?_⟩;simp only[ah,ag];have oz:Hid (Ch L.own (U) U2):=k2.mono fun k _ e=>e▸Lay.mO (fu HG.o);have HT2:Hid _:=T2;clear T2 r2 k2 hne hbk HG HRW nu oD HH;refine aM ?_;go_wp2_with fail;go_end0;exact⟨rfl,HT2.o,xK.o.trans oz.o⟩
  ·rw[ym (by omega)];have m1:¬(cc:Int)+(nn:Int)≤(s.aa:Int):=by omega
   have m2:(s.aa:Int)<(cc:Int)+(nn:Int):=by omega
   go_enter func135,ntmps135;go_wp2_with fail;go_quiet ((first|(go_at_call 177;exact kQ (dY _ _))|(go_at_call 181;exact kQ (dw _ _))));rw[hnn];have HT1:Hid (a_ (World.drewN (w.alloc (Obj.cells (aO ev) 92)) nq) L s):=HT.o.drewN nq;have xK:Hid (Ch L.own w (World.drewN (w.alloc (Obj.cells (aO ev) 92)) nq)):=jA.o.drewN nq;have e3':World.cell? (World.drewN (w.alloc (Obj.cells (aO ev) 92)) nq) ⟨w.heap.size,3,none⟩=some (.int .i64 88):=e3;clear e3 e5 e6 HT jA;generalize hU:World.drewN (w.alloc (Obj.cells (aO ev) 92)) nq=U at*;generalize hlb:w.heap.size=lb at*;go_wp2_with fail;obtain⟨g,hg,hrow,hlen⟩:=HT1.o.Ab HI.o;have oD:a_ ({U with drawn:=World.drawn U+1}:World) L s:=HT1.o.sm ((Ch.refl _ _).drewN 1);have HH:World.cell? ({U with drawn:=World.drawn U+1}:World) ⟨L.tb,27,none⟩=some (.int .i64 (cc:Int))∧World.cell? ({U with drawn:=World.drawn U+1}:World) ⟨L.tb,43,none⟩=some (.slice (some ⟨L.gb,0,none⟩) s.aa s.aa):=⟨by rw[←hcc];exact oD.c 27 _ rfl,oD.c 43 _ rfl⟩;have HG:Hid _:=hg;have HRW:Hid (aK (U) g s.aY):=hrow;have nu:Hid _:=hlen;clear hg hrow hlen;refine fJ (S:=fun x=>x.cell? ⟨L.tb,27,none⟩=some (.int .i64 (cc:Int))∧x.cell? ⟨L.tb,43,none⟩=some (.slice (some ⟨L.gb,0,none⟩) s.aa s.aa)) bI ?_;refine aL 0 2 3 4 HH ?_;simp only[ah,ag];refine aL 5 6 7 8 HH ?_;simp only[ah,ag];refine aL 9 10 11 12 HH ?_;simp only[ah,ag];refine g_ 13 14 HH ?_;refine ak 15 HH ?_ (v:=.int .i64 ((cc:Int)+(nn:Int)));refine ak 16 HH ?_;simp only[ah,ag];refine iC 17 18 19 HH ?_;refine ak 20 HH ?_ (v:=.int .i64 (s.aa:Int));simp only[ah,ag];refine ak 21 HH ?_ (v:=.int .i64 (s.aa:Int));simp only[ah,ag];refine aD 1 ?_;refine d_ (vs:=[.pointer (some ⟨L.tb,0,none⟩)]) (kG L s _ oD HI.o g HG.o) ?_;rintro v2 w2 ⟨rfl,mm,rfl⟩;refine⟨HH,?_⟩;simp only[ah,ag];refine aD 22 ?_;refine bR (vs:=[.slice (some ⟨g,0,none⟩) s.aa s.aa,.int .i64 (cc:Int),.int .i64 ((s.aa:Nat):Int)]) (R:=fun v w'=>v= .tuple #[]∧aK w' g (fK s.aY cc (s.aa))∧Ch (· =g) (U) w') ((oI g cc (s.aa) s.aa s.aY (World.drewN ({U with drawn:=World.drawn U+1}:World) mm) HRW.o nu.o (by omega) (by omega) (by omega)).mono fun e w' h=>⟨_,h.1,rfl,h.2.1,⟨h.2.2.os,h.2.2.tape,h.2.2.output,h.2.2.size,h.2.2.block⟩⟩) ?_;rintro v3 U2 ⟨rfl,r2,k2⟩;have T2:a_ U2 L (s.aI (fK s.aY cc (s.aa))):=HT1.o.aI HG.o r2 (by rw[iA _ _ _ (by rw[nu.o];omega) (by omega)];exact nu.o) k2;have hne:L.tb≠g:=HT1.o.pX HG.o;have hbk:=k2.block L.tb HT1.o.lt hne;refine⟨⟨(eT hbk).trans HH.1,(eT hbk).trans HH.2⟩,?_⟩;simp only[ah,ag];have oz:Hid (Ch L.own (U) U2):=k2.mono fun k _ e=>e▸Lay.mO (fu HG.o);have HT2:Hid _:=T2;clear T2 r2 k2 hne hbk HG HRW nu oD HH;refine aM ?_;go_wp2_with fail;go_end0;exact⟨rfl,HT2.o,xK.o.trans oz.o⟩
 ·have hX:s.edit 76 p0=if s.inRegion then(s.setCur (oJ s.cur s.row.toNat s.below (TS.times p0).toNat s.aa)).bD 0 else s:=rfl;rw[hnt]at hX;rw[hX];clear hX;cases hir:s.inRegion with
  |true=>
   rw[aS rfl];have hin:s.row≤s.bottom:=by unfold TS.inRegion at hir;have:=nG hir;omega
   have Ql:Hid _:=hin;clear hin;go_enter func135,ntmps135;go_wp2_with fail;go_quiet ((first|(go_at_call 177;exact kQ (dY _ _))|(go_at_call 181;exact kQ (dw _ _))));rw[hnn];have HT1:Hid (a_ (World.drewN (w.alloc (Obj.cells (aO ev) 92)) nq) L s):=HT.o.drewN nq;have xK:Hid (Ch L.own w (World.drewN (w.alloc (Obj.cells (aO ev) 92)) nq)):=jA.o.drewN nq;have e3':World.cell? (World.drewN (w.alloc (Obj.cells (aO ev) 92)) nq) ⟨w.heap.size,3,none⟩=some (.int .i64 76):=e3;clear e3 e5 e6 HT jA;generalize hU:World.drewN (w.alloc (Obj.cells (aO ev) 92)) nq=U at*;generalize hlb:w.heap.size=lb at*;have l1:=lV L s U HT1.o;rw[hir]at l1;have l2:∀m,_:=fun m=>vg L s (U.drewN m) (HT1.o.drewN m) HI.o Ql.o;have l3:∀m,_:=fun m=>GN L s (U.drewN m) (HT1.o.drewN m) HI.o Ql.o nn (by omega);go_wp2_with (first|(go_at_call 186;refine l1.mono ?_;rintro e w1 ⟨rfl,m1,rfl⟩)|(go_at_call 187;refine(l2 _).mono ?_;rintro e w2 ⟨rfl,m2,rfl⟩;rw[World.drewN_drewN])|(go_at_call 188;refine(l3 _).mono ?_;rintro e w3 ⟨rfl,h3,c3⟩)|(go_at_call 127;refine(eO L _ _ h3 (HI.o.setCur (by rw[pK];exact HI.o.nW)) 0).mono ?_;rintro e w4 ⟨rfl,h4,c4⟩));go_end0;exact⟨rfl,h4,xK.o.trans (own_drewN.trans (c3.trans c4))⟩
  |false=>rw[aG (by simp)];go_enter func135,ntmps135;go_wp2_with fail;go_quiet ((first|(go_at_call 177;exact kQ (dY _ _))|(go_at_call 181;exact kQ (dw _ _))));rw[hnn];have HT1:Hid (a_ (World.drewN (w.alloc (Obj.cells (aO ev) 92)) nq) L s):=HT.o.drewN nq;have xK:Hid (Ch L.own w (World.drewN (w.alloc (Obj.cells (aO ev) 92)) nq)):=jA.o.drewN nq;have e3':World.cell? (World.drewN (w.alloc (Obj.cells (aO ev) 92)) nq) ⟨w.heap.size,3,none⟩=some (.int .i64 76):=e3;clear e3 e5 e6 HT jA;generalize hU:World.drewN (w.alloc (Obj.cells (aO ev) 92)) nq=U at*;generalize hlb:w.heap.size=lb at*;have l1:=lV L s U HT1.o;rw[hir]at l1;go_wp2_with (go_at_call 186;refine l1.mono ?_;rintro e w1 ⟨rfl,m1,rfl⟩);go_end0;exact⟨rfl,HT1.o.drewN _,xK.o.trans own_drewN⟩
 ·have hX:s.edit 77 p0=if s.inRegion then(s.setCur (MJ s.cur s.row.toNat s.below (TS.times p0).toNat s.aa)).bD 0 else s:=rfl;rw[hnt]at hX;rw[hX];clear hX;cases hir:s.inRegion with
  |true=>
   rw[aS rfl];have hin:s.row≤s.bottom:=by unfold TS.inRegion at hir;have:=nG hir;omega
   have Ql:Hid _:=hin;clear hin;go_enter func135,ntmps135;go_wp2_with fail;go_quiet ((first|(go_at_call 177;exact kQ (dY _ _))|(go_at_call 181;exact kQ (dw _ _))));rw[hnn];have HT1:Hid (a_ (World.drewN (w.alloc (Obj.cells (aO ev) 92)) nq) L s):=HT.o.drewN nq;have xK:Hid (Ch L.own w (World.drewN (w.alloc (Obj.cells (aO ev) 92)) nq)):=jA.o.drewN nq;have e3':World.cell? (World.drewN (w.alloc (Obj.cells (aO ev) 92)) nq) ⟨w.heap.size,3,none⟩=some (.int .i64 77):=e3;clear e3 e5 e6 HT jA;generalize hU:World.drewN (w.alloc (Obj.cells (aO ev) 92)) nq=U at*;generalize hlb:w.heap.size=lb at*;have l1:=lV L s U HT1.o;rw[hir]at l1;have l2:∀m,_:=fun m=>vg L s (U.drewN m) (HT1.o.drewN m) HI.o Ql.o;have l3:∀m,_:=fun m=>NY L s (U.drewN m) (HT1.o.drewN m) HI.o Ql.o nn (by omega);go_wp2_with (first|(go_at_call 186;refine l1.mono ?_;rintro e w1 ⟨rfl,m1,rfl⟩)|(go_at_call 187;refine(l2 _).mono ?_;rintro e w2 ⟨rfl,m2,rfl⟩;rw[World.drewN_drewN])|(go_at_call 171;refine(l3 _).mono ?_;rintro e w3 ⟨rfl,h3,c3⟩)|(go_at_call 127;refine(eO L _ _ h3 (HI.o.setCur (by rw[t_];exact HI.o.nW)) 0).mono ?_;rintro e w4 ⟨rfl,h4,c4⟩));go_end0;exact⟨rfl,h4,xK.o.trans (own_drewN.trans (c3.trans c4))⟩
  |false=>rw[aG (by simp)];go_enter func135,ntmps135;go_wp2_with fail;go_quiet ((first|(go_at_call 177;exact kQ (dY _ _))|(go_at_call 181;exact kQ (dw _ _))));rw[hnn];have HT1:Hid (a_ (World.drewN (w.alloc (Obj.cells (aO ev) 92)) nq) L s):=HT.o.drewN nq;have xK:Hid (Ch L.own w (World.drewN (w.alloc (Obj.cells (aO ev) 92)) nq)):=jA.o.drewN nq;have e3':World.cell? (World.drewN (w.alloc (Obj.cells (aO ev) 92)) nq) ⟨w.heap.size,3,none⟩=some (.int .i64 77):=e3;clear e3 e5 e6 HT jA;generalize hU:World.drewN (w.alloc (Obj.cells (aO ev) 92)) nq=U at*;generalize hlb:w.heap.size=lb at*;have l1:=lV L s U HT1.o;rw[hir]at l1;go_wp2_with (go_at_call 186;refine l1.mono ?_;rintro e w1 ⟨rfl,m1,rfl⟩);go_end0;exact⟨rfl,HT1.o.drewN _,xK.o.trans own_drewN⟩
 ·rw[show s.edit 83 p0=s.fe (TS.times p0).toNat from rfl,hnt];go_enter func135,ntmps135;go_wp2_with fail;go_quiet ((first|(go_at_call 177;exact kQ (dY _ _))|(go_at_call 181;exact kQ (dw _ _))));rw[hnn];have HT1:Hid (a_ (World.drewN (w.alloc (Obj.cells (aO ev) 92)) nq) L s):=HT.o.drewN nq;have xK:Hid (Ch L.own w (World.drewN (w.alloc (Obj.cells (aO ev) 92)) nq)):=jA.o.drewN nq;have e3':World.cell? (World.drewN (w.alloc (Obj.cells (aO ev) 92)) nq) ⟨w.heap.size,3,none⟩=some (.int .i64 83):=e3;clear e3 e5 e6 HT jA;generalize hU:World.drewN (w.alloc (Obj.cells (aO ev) 92)) nq=U at*;generalize hlb:w.heap.size=lb at*;have l2:=pW L s U HT1.o HI.o;have l3:∀m,_:=fun m=>uU L s (U.drewN m) (HT1.o.drewN m) HI.o nn (by omega);go_wp2_with (first|(go_at_call 170;refine l2.mono ?_;rintro e w2 ⟨rfl,m2,rfl⟩)|(go_at_call 171;refine(l3 _).mono ?_;rintro e w3 ⟨rfl,h3,c3⟩));go_end0;exact⟨rfl,h3,xK.o.trans (own_drewN.trans c3)⟩
 ·rw[show s.edit 84 p0=s.eG (TS.times p0).toNat from rfl,hnt];go_enter func135,ntmps135;go_wp2_with fail;go_quiet ((first|(go_at_call 177;exact kQ (dY _ _))|(go_at_call 181;exact kQ (dw _ _))));rw[hnn];have HT1:Hid (a_ (World.drewN (w.alloc (Obj.cells (aO ev) 92)) nq) L s):=HT.o.drewN nq;have xK:Hid (Ch L.own w (World.drewN (w.alloc (Obj.cells (aO ev) 92)) nq)):=jA.o.drewN nq;have e3':World.cell? (World.drewN (w.alloc (Obj.cells (aO ev) 92)) nq) ⟨w.heap.size,3,none⟩=some (.int .i64 84):=e3;clear e3 e5 e6 HT jA;generalize hU:World.drewN (w.alloc (Obj.cells (aO ev) 92)) nq=U at*;generalize hlb:w.heap.size=lb at*;have l2:=pW L s U HT1.o HI.o;have l3:∀m,_:=fun m=>rz L s (U.drewN m) (HT1.o.drewN m) HI.o nn (by omega);go_wp2_with (first|(go_at_call 170;refine l2.mono ?_;rintro e w2 ⟨rfl,m2,rfl⟩)|(go_at_call 188;refine(l3 _).mono ?_;rintro e w3 ⟨rfl,h3,c3⟩));go_end0;exact⟨rfl,h3,xK.o.trans (own_drewN.trans c3)⟩
 ·have e:s.edit f p0=s:=by unfold TS.edit;simp only[aG (show¬f=74 by omega),aG (show¬f=75 by omega),aG (show¬f=64 by omega),aG (show¬f=80 by omega),aG (show¬f=88 by omega),aG (show¬f=76 by omega),aG (show¬f=77 by omega),aG (show¬f=83 by omega),aG (show¬f=84 by omega)]
  rw[e];have b74:(f==74)=false:=by simp;omega
  have b75:(f==75)=false:=by simp;omega
  have b64:(f==64)=false:=by simp;omega
  have b80:(f==80)=false:=by simp;omega
  have b88:(f==88)=false:=by simp;omega
  have b76:(f==76)=false:=by simp;omega
  have b77:(f==77)=false:=by simp;omega
  have b83:(f==83)=false:=by simp;omega
  have b84:(f==84)=false:=by simp;omega
  clear e hf;go_enter func135,ntmps135;go_wp2_with fail;go_quiet ((first|(go_at_call 177;exact kQ (dY _ _))|(go_at_call 181;exact kQ (dw _ _))));rw[hnn];have HT1:Hid (a_ (World.drewN (w.alloc (Obj.cells (aO ev) 92)) nq) L s):=HT.o.drewN nq;have xK:Hid (Ch L.own w (World.drewN (w.alloc (Obj.cells (aO ev) 92)) nq)):=jA.o.drewN nq;have e3':World.cell? (World.drewN (w.alloc (Obj.cells (aO ev) 92)) nq) ⟨w.heap.size,3,none⟩=some (.int .i64 f):=e3;clear e3 e5 e6 HT jA;generalize hU:World.drewN (w.alloc (Obj.cells (aO ev) 92)) nq=U at*;generalize hlb:w.heap.size=lb at*;go_wp2_with fail;go_end0;exact⟨rfl,HT1.o,xK.o⟩
theorem TS.Inv.fH(h:s.Inv)(top bottom:Int)(h0:0≤top):(s.fH top bottom).Inv:=by
 unfold TS.fH;dsimp only;generalize hb:(if bottom<0∨(s.rows:Int)-1<bottom then(s.rows:Int)-1 else bottom)=b;have hb1:b<(s.rows:Int):=by split at hb<;>omega
 split
 ·exact h
 ·exact TS.Inv.home (h.upd rfl rfl rfl rfl rfl rfl rfl h.row0 h.iT h.fU h.gz h0 (by show top≤b;omega) hb1 h.sh)
theorem Ae(L:Lay)(s:TS)(w:World)(ht:a_ w L s)(hi:s.Inv)(top bottom:Int)(h0:0≤top):Calls prog 189 #[.pointer (some ⟨L.tb,0,none⟩),.int .i64 top,.int .i64 bottom] w fun e w'=>e= .returned (.tuple #[])∧a_ w' L (s.fH top bottom)∧Ch L.own w w':=by
 have l1:=kT L s w ht hi;have c38:=ht.c 38 _ rfl;have f38:=ht.f 38;have c39:=ht.c 39 _ rfl;have f39:=ht.f 39;have HT:Hid _:=ht;have HI:Hid s.Inv:=hi;have hX:s.fH top bottom=if(if bottom<0∨(s.rows:Int)-1<bottom then(s.rows:Int)-1 else bottom)≤top then s else({s with top:=top,bottom:=(if bottom<0∨(s.rows:Int)-1<bottom then(s.rows:Int)-1 else bottom)}:TS).home:=rfl;generalize s.fH top bottom=X at*;have lh:∀b,¬b≤top→b<(s.rows:Int)→∀u,a_ u L {s with top:=top,bottom:=b}→_:=fun b hb hb2 u hu=>EB L {s with top:=top,bottom:=b} u hu (hi.upd rfl rfl rfl rfl rfl rfl rfl hi.row0 hi.iT hi.fU hi.gz h0 (by show top≤b;omega) hb2 hi.sh);have st:∀b,a_ ((w.setCell ⟨L.tb,38,none⟩ (.int .i64 top)).setCell ⟨L.tb,39,none⟩ (.int .i64 b)) L {s with top:=top,bottom:=b}:=fun b=>(ht.set (s':={s with top:=top}) 38 (.int .i64 top) rfl rfl rfl rfl rfl).set 39 (.int .i64 b) rfl rfl rfl rfl rfl;have CC:∀b,Ch L.own w ((w.setCell ⟨L.tb,38,none⟩ (.int .i64 top)).setCell ⟨L.tb,39,none⟩ (.int .i64 b)):=fun b=>((Ch.refl _ _).jI _ _).jI _ _;have hr1:=hi.r1;clear ht hi;by_cases hb0:bottom<0
 ·rw[aS (Or.inl hb0)]at hX;by_cases hq:(s.rows:Int)-1≤top
  ·rw[aS hq]at hX;have HX:Hid _:=hX;clear hX;go_enter func189,ntmps189;go_wp2_with (go_at_call 138;refine l1.mono ?_;rintro e w1 ⟨rfl,hw1⟩;have hw2:=hw1.symm;subst hw2);exact gL (lF results189 _ _ _) rfl ⟨rfl,by rw[HX.o];exact HT.o,Ch.refl _ _⟩
  ·rw[aG hq]at hX;have HX:Hid _:=hX;have dq:decide ((s.rows:Int)-1≤top)=false:=by simp;omega
   have l2:=lh ((s.rows:Int)-1) hq (by omega) _ (st _);clear hX lh;go_enter func189,ntmps189;go_wp2_with (first|(go_at_call 138;refine l1.mono ?_;rintro e w1 ⟨rfl,hw1⟩;have hw2:=hw1.symm;subst hw2)|(go_at_call 192;refine l2.mono ?_;rintro e w2 ⟨rfl,h2,c2⟩));go_end0;exact⟨rfl,by rw[HX.o];exact h2,(CC _).trans c2⟩
 ·by_cases hb1:(s.rows:Int)-1<bottom
  ·rw[aS (Or.inr hb1)]at hX;have d0:decide (bottom<0)=false:=by simp;omega
   by_cases hq:(s.rows:Int)-1≤top
   ·rw[aS hq]at hX;have HX:Hid _:=hX;clear hX;go_enter func189,ntmps189;go_wp2_with (go_at_call 138;refine l1.mono ?_;rintro e w1 ⟨rfl,hw1⟩;have hw2:=hw1.symm;subst hw2);exact gL (lF results189 _ _ _) rfl ⟨rfl,by rw[HX.o];exact HT.o,Ch.refl _ _⟩
   ·rw[aG hq]at hX;have HX:Hid _:=hX;have dq:decide ((s.rows:Int)-1≤top)=false:=by simp;omega
    have l2:=lh ((s.rows:Int)-1) hq (by omega) _ (st _);clear hX lh;go_enter func189,ntmps189;go_wp2_with (first|(go_at_call 138;refine l1.mono ?_;rintro e w1 ⟨rfl,hw1⟩;have hw2:=hw1.symm;subst hw2)|(go_at_call 192;refine l2.mono ?_;rintro e w2 ⟨rfl,h2,c2⟩));go_end0;exact⟨rfl,by rw[HX.o];exact h2,(CC _).trans c2⟩
  ·rw[aG (show¬(bottom<0∨(s.rows:Int)-1<bottom) by omega)]at hX;have d0:decide (bottom<0)=false:=by simp;omega
   have d1:decide ((s.rows:Int)-1<bottom)=false:=by simp;omega
   by_cases hq:bottom≤top
   ·rw[aS hq]at hX;have HX:Hid _:=hX;clear hX;go_enter func189,ntmps189;go_wp2_with (go_at_call 138;refine l1.mono ?_;rintro e w1 ⟨rfl,hw1⟩;have hw2:=hw1.symm;subst hw2);exact gL (lF results189 _ _ _) rfl ⟨rfl,by rw[HX.o];exact HT.o,Ch.refl _ _⟩
   ·rw[aG hq]at hX;have HX:Hid _:=hX;have dq:decide (bottom≤top)=false:=by simp;omega
    have l2:=lh (bottom) hq (by omega) _ (st _);clear hX lh;go_enter func189,ntmps189;go_wp2_with (first|(go_at_call 138;refine l1.mono ?_;rintro e w1 ⟨rfl,hw1⟩;have hw2:=hw1.symm;subst hw2)|(go_at_call 192;refine l2.mono ?_;rintro e w2 ⟨rfl,h2,c2⟩));go_end0;exact⟨rfl,by rw[HX.o];exact h2,(CC _).trans c2⟩
theorem fo{fn:Func}{p:Tmp}(h:fn.results= #[.cell p 102])(tmps:Array Value)(w:World)(g:Nat)(c:fO)(t:TypeId)(fr:Nat × Nat)(hp:tmps.getD p undef= .pointer (some ⟨g,0,none⟩))(hg:w.heap[g]? =some (.cells (gI c) t fr)):(results fn tmps).run prog w= .ok (.agg (gI c)) w:=
 results_cell_row h tmps w g t (gI c) fr _ hp hg underlying102 rfl (by exact iP)
theorem jL(w:World)(a b:Obj):((w.alloc a).alloc b).heap[w.heap.size+1]? =some b:=by
 have hs:(w.alloc a).heap.size=w.heap.size+1:=by simp
 rw[←hs];exact bJ _ _
theorem F_(p:fO)(n:Int)(w:World)(hn:0≤n∧n≤70000):Calls prog 191 #[.agg (gI p),.int .i64 n] w fun e w'=>e= .returned (.agg (gI (TS.turn p n)))∧Below w.heap.size w w':=by
 change Calls prog 191 #[.agg #[.bool p.b,.bool p.u,.bool p.t,.int .i64 p.f,.int .i64 p.k],.int .i64 n] w _;generalize hX:TS.turn p n=X;unfold TS.turn at hX;by_cases h0:n=0
 ·subst h0;have HX:Hid (Aa=X):=by rw[←hX];rfl
  clear hX;go_enter func191,ntmps191;go_wp2_with fail
  all_goals refine gL (fo results191 _ _ (w.heap.size+1) X 102 (0,0) (by simp) ?_) rfl ⟨rfl,((dF _ _).alloc (bE _) _).alloc (by simp) _⟩
  all_goals rw[←HX.o];exact jL _ _ _
 by_cases h1:n=1
 ·subst h1;have HX:Hid ({p with b:=true}=X):=by rw[←hX];rfl
  clear hX;go_enter func191,ntmps191;go_wp2_with fail
  all_goals refine gL (fo results191 _ _ (w.heap.size+1) X 102 (0,0) (by simp) ?_) rfl ⟨rfl,((dF _ _).alloc (bE _) _).alloc (by simp) _⟩
  all_goals rw[←HX.o];exact jL _ _ _
 by_cases h22:n=22
 ·subst h22;have HX:Hid ({p with b:=false}=X):=by rw[←hX];rfl
  clear hX;go_enter func191,ntmps191;go_wp2_with fail
  all_goals refine gL (fo results191 _ _ (w.heap.size+1) X 102 (0,0) (by simp) ?_) rfl ⟨rfl,((dF _ _).alloc (bE _) _).alloc (by simp) _⟩
  all_goals rw[←HX.o];exact jL _ _ _
 by_cases h4:n=4
 ·subst h4;have HX:Hid ({p with u:=true}=X):=by rw[←hX];rfl
  clear hX;go_enter func191,ntmps191;go_wp2_with fail
  all_goals refine gL (fo results191 _ _ (w.heap.size+1) X 102 (0,0) (by simp) ?_) rfl ⟨rfl,((dF _ _).alloc (bE _) _).alloc (by simp) _⟩
  all_goals rw[←HX.o];exact jL _ _ _
 by_cases h24:n=24
 ·subst h24;have HX:Hid ({p with u:=false}=X):=by rw[←hX];rfl
  clear hX;go_enter func191,ntmps191;go_wp2_with fail
  all_goals refine gL (fo results191 _ _ (w.heap.size+1) X 102 (0,0) (by simp) ?_) rfl ⟨rfl,((dF _ _).alloc (bE _) _).alloc (by simp) _⟩
  all_goals rw[←HX.o];exact jL _ _ _
 by_cases h7:n=7
 ·subst h7;have HX:Hid ({p with t:=true}=X):=by rw[←hX];rfl
  clear hX;go_enter func191,ntmps191;go_wp2_with fail
  all_goals refine gL (fo results191 _ _ (w.heap.size+1) X 102 (0,0) (by simp) ?_) rfl ⟨rfl,((dF _ _).alloc (bE _) _).alloc (by simp) _⟩
  all_goals rw[←HX.o];exact jL _ _ _
 by_cases h27:n=27
 ·subst h27;have HX:Hid ({p with t:=false}=X):=by rw[←hX];rfl
  clear hX;go_enter func191,ntmps191;go_wp2_with fail
  all_goals refine gL (fo results191 _ _ (w.heap.size+1) X 102 (0,0) (by simp) ?_) rfl ⟨rfl,((dF _ _).alloc (bE _) _).alloc (by simp) _⟩
  all_goals rw[←HX.o];exact jL _ _ _
 by_cases h39:n=39
 ·subst h39;have HX:Hid ({p with f:=0}=X):=by rw[←hX];rfl
  clear hX;go_enter func191,ntmps191;go_wp2_with fail
  all_goals refine gL (fo results191 _ _ (w.heap.size+1) X 102 (0,0) (by simp) ?_) rfl ⟨rfl,((dF _ _).alloc (bE _) _).alloc (by simp) _⟩
  all_goals rw[←HX.o];exact jL _ _ _
 by_cases h49:n=49
 ·subst h49;have HX:Hid ({p with k:=0}=X):=by rw[←hX];rfl
  clear hX;go_enter func191,ntmps191;go_wp2_with fail
  all_goals refine gL (fo results191 _ _ (w.heap.size+1) X 102 (0,0) (by simp) ?_) rfl ⟨rfl,((dF _ _).alloc (bE _) _).alloc (by simp) _⟩
  all_goals rw[←HX.o];exact jL _ _ _
 have b0:(n==0)=false:=by simp[h0]
 have b1:(n==1)=false:=by simp[h1]
 have b22:(n==22)=false:=by simp[h22]
 have b4:(n==4)=false:=by simp[h4]
 have b24:(n==24)=false:=by simp[h24]
 have b7:(n==7)=false:=by simp[h7]
 have b27:(n==27)=false:=by simp[h27]
 have b39:(n==39)=false:=by simp[h39]
 have b49:(n==49)=false:=by simp[h49]
 rw[aG h0,aG (show¬(n=1∨n=22) by omega),aG (show¬(n=4∨n=24) by omega),aG (show¬(n=7∨n=27) by omega)]at hX;by_cases r1:30≤n∧n≤37
 ·rw[aS r1]at hX;have HX:Hid _:=hX;obtain⟨r1a,r1b⟩:=r1;have v1:IntKind.i64.wrap (n-29)=n-29:=bV _ (by omega);clear hX h0 h1 h22 h4 h24 h7 h27 h39 h49;go_enter func191,ntmps191;go_wp2_with fail
  all_goals refine gL (fo results191 _ _ (w.heap.size+1) X 102 (0,0) (by simp) ?_) rfl ⟨rfl,((dF _ _).alloc (bE _) _).alloc (by simp) _⟩
  all_goals rw[←HX.o];exact jL _ _ _
 ·rw[aG r1,aG h39]at hX;by_cases r2:40≤n∧n≤47
  ·rw[aS r2]at hX;have HX:Hid _:=hX;obtain⟨r2a,r2b⟩:=r2;have d1:decide (n≤37)=false:=by simp;omega
   have d1':decide (30≤n)=true:=by simp;omega
   have d1'':30≤n:=by omega
   have v1:IntKind.i64.wrap (n-39)=n-39:=bV _ (by omega);clear hX h0 h1 h22 h4 h24 h7 h27 h39 h49;go_enter func191,ntmps191;go_wp2_with fail
   all_goals refine gL (fo results191 _ _ (w.heap.size+1) X 102 (0,0) (by simp) ?_) rfl ⟨rfl,((dF _ _).alloc (bE _) _).alloc (by simp) _⟩
   all_goals rw[←HX.o];exact jL _ _ _
  ·rw[aG r2,aG h49]at hX;have HX:Hid _:=hX;clear hX h0 h1 h22 h4 h24 h7 h27;rcases(show n<30∨(37<n∧n<40)∨47<n by omega)with q|q|q
   ·have d1:decide (30≤n)=false:=by simp;omega
    have d2:decide (40≤n)=false:=by simp;omega
    clear r1 r2 h39 h49;go_enter func191,ntmps191;go_wp2_with fail
    all_goals refine gL (fo results191 _ _ (w.heap.size+1) X 102 (0,0) (by simp) ?_) rfl ⟨rfl,((dF _ _).alloc (bE _) _).alloc (by simp) _⟩
    all_goals rw[←HX.o];exact jL _ _ _
   ·have d1:decide (30≤n)=true:=by simp;omega
    have d1':decide (n≤37)=false:=by simp;omega
    have d1'':30≤n:=by omega
    have d2:decide (40≤n)=false:=by simp;omega
    clear r1 r2 h39 h49;go_enter func191,ntmps191;go_wp2_with fail
    all_goals refine gL (fo results191 _ _ (w.heap.size+1) X 102 (0,0) (by simp) ?_) rfl ⟨rfl,((dF _ _).alloc (bE _) _).alloc (by simp) _⟩
    all_goals rw[←HX.o];exact jL _ _ _
   ·have d1:decide (30≤n)=true:=by simp;omega
    have d1':decide (n≤37)=false:=by simp;omega
    have d1'':30≤n:=by omega
    have d2'':40≤n:=by omega
    have d2:decide (40≤n)=true:=by simp;omega
    have d2':decide (n≤47)=false:=by simp;omega
    clear r1 r2 h39 h49;go_enter func191,ntmps191;go_wp2_with fail
    all_goals refine gL (fo results191 _ _ (w.heap.size+1) X 102 (0,0) (by simp) ?_) rfl ⟨rfl,((dF _ _).alloc (bE _) _).alloc (by simp) _⟩
    all_goals rw[←HX.o];exact jL _ _ _
theorem aah(u:World):(zeroValue 4).run prog u= .ok (.bool false) u:=by kernel_rfl
theorem VX(n:Nat):(Builtin.zeroCells #[Value.bool false] n).toList=List.replicate n (Value.bool false):=by
 apply List.ext_getElem?;intro i;simp only[Builtin.zeroCells,Array.getElem?_toList,Array.getElem?_map,Array.getElem?_range,Jm];by_cases h:i<n
 ·rw[aS (by simpa using h),aS h];simp[Nat.mod_one]
 ·rw[aG (by simpa using h),aG h];rfl
theorem MO{ops:Array Oper}{rest:List Oper}{o:Oper}{a:Act}{u:World}{Q:Exit→Act→World→Prop}(hgd:o.guard=none)(x:Operand)(ho:o.op= .call {callee:=.builtin .clear,args:=#[x],argTypes:=#[140]})(hd:o.dst=none)(L:Lay)(s:TS)(hx:a.eval x= .slice (some ⟨L.gb,0,none⟩) s.aa s.aa)(ht:a_ u L s)(hi:s.Inv)(h:∀u',a_ u' L {s with tabs:=List.replicate s.tabs.length false}→Ch L.own u u'→wpList prog ops Q rest a u'):wpList prog ops Q (o::rest) a u:=by
 have hlen:(s.tabs.map Value.bool).length=s.aa:=by rw[List.length_map];exact hi.lt
 have hst:=run_storeCells_cells (P:=prog) L.gb 0 (List.replicate s.aa (.bool false)) 0 u (fun i hj=>by rw[Au]at hj;rw[dJ _ _ _ _ _ _ ht.tab];simp[hi.lt,hj]) (fun i _=>ou _ _ _ _ _ ht.tab) (fun v hv=>by rw[M6 hv];rfl);have hz:=size_setCells L.gb (List.replicate s.aa (.bool false)) 0 u;have hb:=pG (vs:=List.replicate s.aa (Value.bool false)) (o:=0) ht.tab (by rw[hlen,Au];omega);rw[List.take_zero,Aw,yj (by rw[hlen,Au];omega),Av]at hb;have k:Ch (· =L.gb) u (u.setCells L.gb 0 (List.replicate s.aa (.bool false))):=⟨hz.2.1,hz.2.2.1,hz.2.2.2,by omega,fun i _ hn=>fV L.gb _ _ _ i hn⟩;have T:=ht.C9 (tabs:=List.replicate s.tabs.length false) (by rw[List.map_replicate,hi.lt];exact hb) k;refine sI hgd fun K hK=>?_;have R:=hK _ _ (h _ T (k.mono fun j _ e=>.inr (.inr (.inr (.inl e)))));have hc1:=hi.c1;obtain⟨m,hm⟩:∃m,s.aa=m+1:=⟨s.aa-1,by omega⟩;have hrun:(Builtin.clear_ #[140] o.type #[.slice (some ⟨L.gb,0,none⟩) s.aa s.aa]).run prog u= .ok (.tuple #[]) (u.setCells L.gb 0 (List.replicate s.aa (.bool false))):=by rw[hm]at hst ⊢;have hzc:(Value.bool false).cells= #[.bool false]:=rfl;simp only[Builtin.clear_,kN,run_underlying underlying140,kM,AA,List.getElem?_cons_zero,aah,hzc,VX];rw[wT]at hst;rw[hst];rfl
 unfold Oper.wp;simp[execOp,ho,resolve,invoke,builtin,hx,hrun,Result.andThen,Oper.upon_value,Act.put,hd];simpa[Act.put]using R
theorem TS.Inv.C_(h:s.Inv)(t:List Bool)(ht:t.length=s.aa):({s with tabs:=t}:TS).Inv:=
 ⟨h.r1,h.r2,h.c1,h.c2,h.row0,h.iT,h.fU,h.gz,h.gN,h.tb,h.bot,h.sh,h.l0,h.l1,ht,h.VR,h.VQ,h.VT,h.VS⟩
theorem TS.Inv.eD(h:s.Inv)(what:Int):(s.eD what).Inv:=by
 unfold TS.eD;split
 ·exact h.C_ _ (by rw[qB];exact h.lt)
 ·split
  ·exact h.C_ _ (by rw[Au];exact h.lt)
  ·exact h
theorem zW(L:Lay)(s:TS)(w:World)(ht:a_ w L s)(hi:s.Inv)(what:Int):Calls prog 190 #[.pointer (some ⟨L.tb,0,none⟩),.int .i64 what] w fun e w'=>e= .returned (.tuple #[])∧a_ w' L (s.eD what)∧Ch L.own w w':=by
 obtain⟨cc,hcc⟩:∃cc:Nat,s.col=(cc:Int):=⟨s.col.toNat,by have:=hi.fU;omega⟩;have hcl:cc<s.aa:=by have:=hi.gz;omega
 have hcl':(cc:Int)<(s.aa:Int):=by omega
 have hcn:s.col.toNat=cc:=by rw[hcc];rfl
 have htl:cc<s.tabs.length:=by rw[hi.lt];exact hcl
 have c43:=ht.c 43 _ rfl;have HT:Hid _:=ht;have HI:Hid s.Inv:=hi;clear ht hi;rcases(show what=0∨what=3∨¬(what=0∨what=3) by omega)with rfl|rfl|hw
 ·rw[show s.eD 0= {s with tabs:=s.tabs.set s.col.toNat false} from rfl,hcn];have HT0:a_ ({w with drawn:=w.drawn+1}:World) L s:=HT.o.sm ((Ch.refl _ _).drewN 1);have HH:World.cell? ({w with drawn:=w.drawn+1}:World) ⟨L.tb,43,none⟩=some (.slice (some ⟨L.gb,0,none⟩) s.aa s.aa)∧World.cell? ({w with drawn:=w.drawn+1}:World) ⟨L.tb,27,none⟩=some (.int .i64 (cc:Int)):=⟨HT0.c 43 _ rfl,by rw[←hcc];exact HT0.c 27 _ rfl⟩;go_enter func190,ntmps190;go_wp2_with fail;refine fJ (S:=fun x=>x.cell? ⟨L.tb,43,none⟩=some (.slice (some ⟨L.gb,0,none⟩) s.aa s.aa)∧x.cell? ⟨L.tb,27,none⟩=some (.int .i64 (cc:Int))) bI ?_;refine aL 0 1 2 3 HH ?_;simp only[ah,ag];refine aL 4 5 6 7 HH ?_;simp only[ah,ag];refine g_ 8 9 HH ?_;refine ak 10 HH ?_ (v:=.pointer (some ⟨L.gb,cc,none⟩));simp only[ah,ag];refine aD 11 ?_;refine ni 4 tJ (.tmp 17) _ rfl rfl L.gb cc (s.tabs.map Value.bool) ((s.tabs.set cc false).map Value.bool) (.bool false) (by rw[List.length_map];exact htl) rfl rfl rfl rfl (by rw[List.map_set]) 4 HT0.tab ?_;intro u3 g3 k3;have T3:=HT0.C9 g3 k3;refine⟨⟨T3.c 43 _ rfl,by rw[←hcc];exact T3.c 27 _ rfl⟩,?_⟩;refine aM ?_;have HF:Hid (a_ u3 L {s with tabs:=s.tabs.set cc false}∧Ch L.own w u3):=⟨T3,(⟨k3.os,k3.tape,k3.output,k3.size,k3.block⟩:Ch (· =L.gb) w u3).mono fun k _ e=>.inr (.inr (.inr (.inl e)))⟩;clear T3 k3 g3 HT0 HH;go_wp2_with fail;go_end0;exact⟨rfl,HF.o.1,HF.o.2⟩
 ·rw[show s.eD 3= {s with tabs:=List.replicate s.tabs.length false} from rfl];go_enter func190,ntmps190;go_wp2_with (refine MO rfl (.tmp 23) rfl rfl L s rfl HT.o HI.o ?_);intro u' t' c';go_wp2_with fail;go_end0;exact⟨rfl,t',c'⟩
 ·have e:s.eD what=s:=by unfold TS.eD;simp only[aG (show¬what=0 by omega),aG (show¬what=3 by omega)]
  rw[e];have b0:(what==0)=false:=by simp;omega
  have b1:(what==3)=false:=by simp;omega
  clear e hw;go_enter func190,ntmps190;go_wp2_with fail;go_end0;exact⟨rfl,HT.o,Ch.refl _ _⟩
end Go.Proofs.YtheibfffilomcabGreatDoor
