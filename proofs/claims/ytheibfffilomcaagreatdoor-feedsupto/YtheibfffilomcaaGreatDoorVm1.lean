import Derived.Test.YtheibfffilomcaaGreatDoorTmaU
import Derived.Test.YtheibfffilomcaaGreatDoorRwaU
set_option linter.all false
set_option maxRecDepth 100000
set_option maxHeartbeats 8000000
namespace Go.Proofs.YtheibfffilomcaaGreatDoor
open Go.RowKit Go.Proofs.Tryz
theorem UE(tb:Nat)(v0 v1:Value)(fed:ByteArray)(done:Nat)(d:DT)(c:Int)(w:World)(ht:bR w tb v0 v1 fed done d)(hok:d.Ok)(hid:d.ids≤1000000000)(hwd:j_ c=1):Calls prog 61 #[.pointer (some ⟨tb,0,none⟩),.int .i64 c] w fun e w'=>e= .returned (.tuple #[])∧∃v0' v1',bR w' tb v0' v1' fed done (d.print c 1)∧Ch (· =tb) w w':=by
 have lw:=qo c w;rw[hwd]at lw;have HT:Hid _:=ht;clear ht;go_enter func61,ntmps61;go_wp2_with fail;refine lw.mono ?_;rintro e w1 ⟨rfl,b1⟩;have HT1:Hid (bR w1 tb v0 v1 fed done d):=HT.o.sm (Ch.of_below b1);have C1:Hid (Ch (· =tb) w w1):=Sm.ch (Ch.of_below b1);clear lw b1 HT;have c1:=HT1.o.gX;have hu:=hok.fit.u;have hf1:=hok.fit.f;have hs1:=hok.fit.sc;have eu:d.abs.use=d.t.use:=rfl;have ef:d.abs.first=d.t.first:=rfl;have es:d.abs.second=d.t.second:=rfl;rw[eu]at hu;rw[ef]at hf1;rw[es]at hs1;obtain⟨c2,hC2⟩:∃x,d.abs.spelt c=x:=⟨_,rfl⟩;have W9:Hid (c2=if(if d.t.use=1 then d.t.second else d.t.first)=1 then TS.mY c else c):=by rw[←hC2];rfl
 have n_:Hid _:=hC2;clear hC2;have iV:Hid _:=hok;clear hok;go_upto_region 2 with fail;go_cut [57] from 9 to 56 (fun s57 wc=>s57= .bool (decide ((if d.t.use=1 then d.t.second else d.t.first)=1))∧wc=w1)
 case first=>
  have c14:=HT1.o.VX;have c12:=HT1.o.LK;have c13:=HT1.o.Gp;rcases hu with e1|e1
  ·rw[e1]at c14;clear c13;rcases hf1 with e2|e2
   ·rw[e2]at c12;refine dO ?_;refine au (aQ tb 0) ?_;refine au (aQ tb 0) ?_;refine au (aQ tb 4) ?_;refine au (aQ tb 4) ?_;simp only[ag,af,aQ];refine au (aQ tb 14) ?_;refine iG c14 ?_;refine au (.bool true) ?_;refine au (.bool true) ?_;simp only[ag,af,aQ];refine au (aQ tb 0) ?_;refine au (aQ tb 0) ?_;refine au (aQ tb 4) ?_;refine au (aQ tb 4) ?_;simp only[ag,af,aQ];refine au (aQ tb 12) ?_;refine iG c12 ?_;refine au (.bool false) ?_;refine au (.bool false) ?_;simp only[ag,af,aQ];refine au (.bool false) ?_;refine au (aQ tb 0) ?_;refine au (aQ tb 0) ?_;refine au (aQ tb 4) ?_;simp only[ag,af,aQ];refine au (aQ tb 4) ?_;refine au (aQ tb 14) ?_;refine iG c14 ?_;refine au (.bool false) ?_;simp only[ag,af,aQ];refine au (.bool false) ?_;refine aR ?_;refine aR ?_;refine aR ?_;simp only[ag,af];refine aR ?_;refine aR ?_;refine aR ?_;refine aR ?_;simp only[ag,af];refine au (.bool false) ?_;refine au (.bool false) ?_;simp only[ag,af];refine WL.nil ?_;go_wp2_with fail;go_meet;exact⟨by rw[e1,e2];rfl,rfl⟩
   ·rw[e2]at c12;refine dO ?_;refine au (aQ tb 0) ?_;refine au (aQ tb 0) ?_;refine au (aQ tb 4) ?_;refine au (aQ tb 4) ?_;simp only[ag,af,aQ];refine au (aQ tb 14) ?_;refine iG c14 ?_;refine au (.bool true) ?_;refine au (.bool true) ?_;simp only[ag,af,aQ];refine au (aQ tb 0) ?_;refine au (aQ tb 0) ?_;refine au (aQ tb 4) ?_;refine au (aQ tb 4) ?_;simp only[ag,af,aQ];refine au (aQ tb 12) ?_;refine iG c12 ?_;refine au (.bool true) ?_;refine au (.bool true) ?_;simp only[ag,af,aQ];refine au (.bool true) ?_;refine aR ?_;refine aR ?_;refine aR ?_;simp only[ag,af];refine aR ?_;refine aR ?_;refine aR ?_;refine aR ?_;simp only[ag,af];refine aR ?_;refine aR ?_;refine aR ?_;refine aR ?_;simp only[ag,af];refine aR ?_;refine aR ?_;refine aR ?_;refine aR ?_;simp only[ag,af];refine aR ?_;refine au (.bool true) ?_;simp only[ag,af];refine WL.nil ?_;go_wp2_with fail;go_meet;exact⟨by rw[e1,e2];rfl,rfl⟩
  ·rw[e1]at c14;clear c12;rcases hs1 with e2|e2
   ·rw[e2]at c13;refine dO ?_;refine au (aQ tb 0) ?_;refine au (aQ tb 0) ?_;refine au (aQ tb 4) ?_;refine au (aQ tb 4) ?_;simp only[ag,af,aQ];refine au (aQ tb 14) ?_;refine iG c14 ?_;refine au (.bool false) ?_;refine au (.bool false) ?_;simp only[ag,af,aQ];refine aR ?_;refine aR ?_;refine aR ?_;refine aR ?_;simp only[ag,af];refine aR ?_;refine aR ?_;refine aR ?_;refine au (.bool false) ?_;simp only[ag,af];refine au (.bool false) ?_;refine au (aQ tb 0) ?_;refine au (aQ tb 0) ?_;refine au (aQ tb 4) ?_;simp only[ag,af,aQ];refine au (aQ tb 4) ?_;refine au (aQ tb 14) ?_;refine iG c14 ?_;refine au (.bool true) ?_;simp only[ag,af,aQ];refine au (.bool true) ?_;refine au (aQ tb 0) ?_;refine au (aQ tb 0) ?_;refine au (aQ tb 4) ?_;simp only[ag,af,aQ];refine au (aQ tb 4) ?_;refine au (aQ tb 13) ?_;refine iG c13 ?_;refine au (.bool false) ?_;simp only[ag,af,aQ];refine au (.bool false) ?_;refine au (.bool false) ?_;simp only[ag,af];refine WL.nil ?_;go_wp2_with fail;go_meet;exact⟨by rw[e1,e2];rfl,rfl⟩
   ·rw[e2]at c13;refine dO ?_;refine au (aQ tb 0) ?_;refine au (aQ tb 0) ?_;refine au (aQ tb 4) ?_;refine au (aQ tb 4) ?_;simp only[ag,af,aQ];refine au (aQ tb 14) ?_;refine iG c14 ?_;refine au (.bool false) ?_;refine au (.bool false) ?_;simp only[ag,af,aQ];refine aR ?_;refine aR ?_;refine aR ?_;refine aR ?_;simp only[ag,af];refine aR ?_;refine aR ?_;refine aR ?_;refine au (.bool false) ?_;simp only[ag,af];refine au (.bool false) ?_;refine au (aQ tb 0) ?_;refine au (aQ tb 0) ?_;refine au (aQ tb 4) ?_;simp only[ag,af,aQ];refine au (aQ tb 4) ?_;refine au (aQ tb 14) ?_;refine iG c14 ?_;refine au (.bool true) ?_;simp only[ag,af,aQ];refine au (.bool true) ?_;refine au (aQ tb 0) ?_;refine au (aQ tb 0) ?_;refine au (aQ tb 4) ?_;simp only[ag,af,aQ];refine au (aQ tb 4) ?_;refine au (aQ tb 13) ?_;refine iG c13 ?_;refine au (.bool true) ?_;simp only[ag,af,aQ];refine au (.bool true) ?_;refine au (.bool true) ?_;simp only[ag,af];refine WL.nil ?_;go_wp2_with fail;go_meet;exact⟨by rw[e1,e2];rfl,rfl⟩
 case rest=>
  generalize hwc:wc=wc1 at*;clear hwc wc;obtain⟨rfl,YB⟩:=hcut;subst YB;clear hu hf1 hs1 eu ef es;go_upto_if 57 with fail;go_cut [1] from 57 to 59 (fun s1 OB=>s1= .int .i64 c2∧Sm wc1 OB)
  case first=>
   as_aux_lemma=>
    by_cases hA:(if d.t.use=1 then d.t.second else d.t.first)=1
    ·rw[iP hA];go_wp2_with fail;refine(Dt c _).mono ?_;rintro e w2 ⟨rfl,s2⟩;go_wp2_with fail;go_meet;exact⟨by rw[W9.o,ak hA],s2⟩
    ·rw[jh hA];go_wp2_with fail;go_meet;exact⟨by rw[W9.o,ai hA],Ch.refl _ _⟩
  case rest=>
   generalize hwc:wc=OB at*;clear hwc wc;obtain⟨rfl,wI⟩:=hcut;have HT2:Hid (bR OB tb v0 v1 fed done d):=HT1.o.sm wI;have C2:Hid (Ch (· =tb) w OB):=C1.o.trans (Sm.ch wI);clear wI HT1 C1 c1;go_upto_region 4 with fail;go_cut [5] from 60 to 75 (fun s5 K3=>s5= .bool (false)∧Sm OB K3)
   case first=>
    as_aux_lemma=>go_quiet (fail);go_wp2_with fail;go_meet;exact⟨rfl,(Ch.refl _ _).drewN _⟩
   case rest=>
    generalize hwc:wc=K3 at*;clear hwc wc;obtain⟨rfl,FW⟩:=hcut;have HT3:Hid (bR K3 tb v0 v1 fed done d):=HT2.o.sm FW;have C3:Hid (Ch (· =tb) w K3):=C2.o.trans (Sm.ch FW);clear FW HT2 C2;go_upto_region 5 with fail;go_cut [5,91] from 76 to 90 (fun s5 s91 Tm=>s5= .bool (false)∧s91= .bool (d.t.waits||(false&&d.t.wrap))∧Tm=K3)
    case first=>
     as_aux_lemma=>
      have c6:=HT3.o.LM;have c18:=HT3.o.tu;clear c18;cases ew:d.t.waits with
      |true=>rw[ew]at c6;refine dO ?_;refine au (aQ tb 0) ?_;refine au (aQ tb 0) ?_;refine au (aQ tb 4) ?_;refine au (aQ tb 4) ?_;simp only[ag,af,aQ];refine au (aQ tb 6) ?_;refine qw c6 ?_;refine au (.bool true) ?_;refine aR ?_;simp only[ag,af,aQ];refine aR ?_;refine aR ?_;refine aR ?_;refine aR ?_;simp only[ag,af];refine aR ?_;refine aR ?_;refine aR ?_;refine au (.bool true) ?_;simp only[ag,af];refine WL.nil ?_;go_wp2_with fail;go_meet;exact⟨rfl,by rw[ew];rfl,rfl⟩
      |false=>rw[ew]at c6;refine dO ?_;refine au (aQ tb 0) ?_;refine au (aQ tb 0) ?_;refine au (aQ tb 4) ?_;refine au (aQ tb 4) ?_;simp only[ag,af,aQ];refine au (aQ tb 6) ?_;refine qw c6 ?_;refine au (.bool false) ?_;refine au (.bool false) ?_;simp only[ag,af,aQ];refine au (.bool false) ?_;refine aR ?_;refine aR ?_;refine aR ?_;simp only[ag,af];refine aR ?_;refine aR ?_;refine au (.bool false) ?_;refine au (.bool false) ?_;simp only[ag,af];refine WL.nil ?_;go_wp2_with fail;go_meet;exact⟨rfl,by rw[ew];rfl,rfl⟩
    case rest=>
     generalize hwc:wc=Tm at*;clear hwc wc;obtain⟨rfl,rfl,YC⟩:=hcut;subst YC;go_upto_if 91 with fail;go_cut [5] from 91 to 104 (fun s5 El=>∃x0 x1 D,bR El tb x0 x1 fed done D∧Ch (· =tb) w El∧D.Ok∧D.t.ah=d.t.ah∧D.t.col+(1:Int)≤(d.t.ah:Int)∧D.ids=d.ids∧d.print c 1=D.fo c2 1)
     case first=>
      as_aux_lemma=>
       by_cases hW:(d.t.waits||(false&&d.t.wrap))=true
       ·have hp:d.print c 1=d.pO.fo c2 1:=by
         unfold DT.print
         rw[ai (by omega),ak (by
          rcases Bool.or_eq_true _ _▸hW with h|h
          ·exact .inl h
          ·cases h)]
         rw[n_.o]
        rw[hW];have htl:=iV.o.tl;go_wp2_with (first|(refine aS rfl 4 dZ (.tmp 96) _ rfl rfl {d with t:={d.t with waits:=false}} 6 (.bool false) rfl rfl rfl rfl HT3.o htl (by decide) rfl rfl rfl ?_;intro u4 t4 k4;have rV:Hid _:=t4;have qY:Hid _:=k4;clear t4 k4)|(refine aS rfl 3 dL (.tmp 101) _ rfl rfl {d with t:={d.t with waits:=false,col:=0}} 5 (.int .i64 0) rfl rfl rfl rfl rV.o htl (by decide) rfl rfl rfl ?_;intro u5 t5 k5;have Am:Hid _:=t5;have Jg:Hid _:=k5;clear t5 k5));refine(oI tb v0 v1 fed done _ _ Am.o (Hr iV.o)).mono ?_;rintro e w6 ⟨rfl,x0,x1,t6,k6⟩;have xR:Hid _:=t6;have TH:Hid _:=k6;clear t6 k6;go_wp2_with fail;go_meet;have nt:=DT.JJ {d with t:={d.t with waits:=false,col:=0}};have hcc:=iV.o.inv.c1;have e2:d.abs.ah=d.t.ah:=rfl;exact⟨x0,x1,d.pO,xR.o,((C3.o.trans qY.o).trans Jg.o).trans TH.o,(DT.E5 iV.o).1,nt.2.2,by show d.pO.t.col+_≤_;rw[show d.pO.t.col=0 from nt.2.1];omega,Ht d,hp⟩
       ·have hwf:d.t.waits=false:=by cases e:d.t.waits with|false=>rfl|true=>rw[e]at hW;exact absurd rfl hW
        have hp:d.print c 1=d.fo c2 1:=by unfold DT.print;rw[ai (by omega),ai (by rintro(x|⟨⟨x,_⟩,_⟩);rw[hwf]at x;cases x;omega),ai (by omega),n_.o]
        rw[show(d.t.waits||(false&&d.t.wrap))=false by rw[hwf];rfl];go_wp2_with fail;go_meet;obtain⟨kc,hkc,hkl⟩:=iV.o.cl;exact⟨v0,v1,d,HT3.o,C3.o,iV.o,rfl,by omega,rfl,hp⟩
     case rest=>
      generalize hwc:wc=El at*;clear hwc wc;obtain⟨x0,x1,D,t5,k5,okD,hDc,hDl,hDi,hP⟩:=hcut;have HP:Hid _:=hP;have Am:Hid _:=t5;have C5:Hid _:=k5;have Jj:Hid _:=okD;have QI:D.ids≤1000000000:=by omega
      clear t5 k5 okD hP HT3 C3 iV;have c19:=Am.o.Bf;obtain⟨kc,hkc,hkl⟩:=Jj.o.cl;have hrl:=Jj.o.rn.2;have UR:D.t.ah≤40:=Jj.o.inv.c2;go_upto_if 109 with fail;go_cut [6] from 105 to 122 (fun s6 K_=>∃y0 y1,bR K_ tb y0 y1 fed done (D.nI 1)∧Ch (· =tb) w K_)
      case first=>
       as_aux_lemma=>
        cases hI:D.t.insert with
        |true=>
         have Dc:Hid (D.nI 1=D.put (pushed D.aP kc 1)):=by show _=_;unfold DT.nI;rw[ak hI,hkc,lF]
         have CC:∀u,bR u tb x0 x1 fed done D→u.cell? ⟨tb,5,none⟩=some (.int .i64 (kc:Int)):=fun u hu=>by rw[←hkc];exact hu.oz
         go_wp2_with fail;have T4:bR ({El with drawn:=El.drawn+1}:World) tb x0 x1 fed done D:=Am.o.sm ((Ch.refl _ _).drewN 1);have S4:=CC _ T4;have K4:Ch (· =tb) w ({El with drawn:=El.drawn+1}:World):=C5.o.drewN 1;refine dX (S:=fun x=>x.cell? ⟨tb,5,none⟩=some (.int .i64 (kc:Int))) aX ?_;refine ay 0 2 8 3 S4 ?_;simp only[ag,af];refine ay 4 5 6 7 S4 ?_;simp only[ag,af];refine av 1 ?_;refine a_ (vs:=[.pointer (some ⟨tb,0,none⟩)]) (qL tb x0 x1 fed done D _ T4 Jj.o) ?_;rintro vr w5 ⟨R5,s5⟩;have T5:=T4.sm s5;have S5:=CC _ T5;have K5:=K4.trans (Sm.ch s5);refine⟨S5,?_⟩
         try simp only[ag,af]
         refine av 9 ?_;refine a_ (vs:=[vr,.int .i64 (kc:Int),.int .i64 1]) (xE vr D.aP kc 1 _ w5 R5 (by omega) (by omega) (by omega) (by omega)) ?_;rintro vp w6 ⟨O6,b6⟩;have Ob:Sm w5 w6:=Ch.of_below b6;have T6:=T5.sm Ob;have S6:=CC _ T6;have K6:=K5.trans (Sm.ch Ob);refine⟨S6,?_⟩
         try simp only[ag,af]
         refine aj 10 S6 ?_;simp only[ag,af];refine aC ?_;have xR:Hid _:=T6;have TH:Hid _:=K6;have HR6:Hid (dF w6 0 vp (pushed D.aP kc 1)):=(O6.rd).mono (dx _);clear S4 S5 S6 T4 T5 T6 K4 K5 K6 R5 s5 b6 Ob O6 CC;go_wp2_with fail;refine(qK tb x0 x1 vp fed done D (pushed D.aP kc 1) _ xR.o Jj.o HR6.o).mono ?_;rintro e w7 ⟨rfl,z0,z1,t7,k7⟩;have xq:Hid _:=t7;have Al:Hid _:=TH.o.trans k7;clear t7 k7;go_wp2_with fail;go_meet;exact⟨z0,z1,by rw[Dc.o];exact xq.o,Al.o⟩
        |false=>
         have Dc:Hid (D.nI 1=D):=by show _=_;unfold DT.nI;rw[ai (by rw[hI];decide)]
         go_wp2_with fail;go_meet;exact⟨x0,x1,by rw[Dc.o];exact Am.o,C5.o⟩
      case rest=>
       generalize hwc:wc=K_ at*;clear hwc wc;obtain⟨y0,y1,t6,k6⟩:=hcut;obtain⟨E,hE⟩:∃E,E=D.nI 1:=⟨_,rfl⟩;have Vf:E.Ok:=by rw[hE];exact(DT.EU Jj.o 1 (by omega)).1
       have tE:E.t=D.t∧E.tb=D.tb∧E.ids=D.ids:=by rw[hE];exact D.EW 1
       rw[←hE]at t6;have hX:d.print c 1=(E.ED c2 1).rG 1:=by rw[HP.o];unfold DT.fo;rw[←hE]
       have sQ:Hid _:=hX;rw[←tE.1]at hkc hkl UR hDl hDc;have hcl:kc+1≤E.t.ah:=by omega
       have ab_:=Vf.rn.2;have hie:E.ids≤1000000000:=by rw[tE.2.2];exact QI
       have htl:=Vf.tl;have xR:Hid _:=t6;have C6:Hid _:=k6;have SY:Hid _:=Vf;clear t6 k6 Vf hX hE HP Am C5 Jj tE hDl hDc hDi QI hrl c19;go_upto_region 13 with fail;go_cut [7] from 123 to 132 (fun s7 IU=>dF IU 0 s7 [(⟨c2,E.t.pen,0⟩,0)]∧Sm K_ IU)
       case first=>have RG:K_.rangeAt tb 7 (dG E.t.pen):=xR.o.range 7 _ rfl;refine dO ?_;refine au (.int .i64 c2) ?_;refine au (aQ tb 0) ?_;refine au (aQ tb 0) ?_;refine au (aQ tb 4) ?_;simp only[ag,af,aQ];refine au (aQ tb 4) ?_;refine au (aQ tb 7) ?_;simp only[ag,af,aQ];refine Sn (d:=129) (v:=(.agg (aW E.t.pen))) rfl (kz (S:=fun x=>x.rangeAt tb 7 (dG E.t.pen)) (by rfl) 80 (.tmp 128) rfl tb 7 rfl (dG E.t.pen) _ (fun x h=>h) underlying80 rfl eH) RG ?_;simp only[ag,af];refine au (.agg (dw ⟨c2,E.t.pen,0⟩)) ?_;refine au (.agg (Dr (⟨c2,E.t.pen,0⟩,0))) ?_;simp only[ag,af];refine⟨?_⟩;refine pU _ rfl (.tmp 131) rfl (⟨c2,E.t.pen,0⟩,0) rfl ?_;go_wp2_with fail;go_meet;exact⟨dF.acH _ _,(Ch.refl _ _).alloc _⟩
       case rest=>
        generalize hwc:wc=IU at*;clear hwc wc;obtain⟨R7,YZ⟩:=hcut;have xq:Hid (bR IU tb y0 y1 fed done E):=xR.o.sm YZ;have C7:Hid (Ch (· =tb) w IU):=C6.o.trans (Sm.ch YZ);have HR7:Hid _:=R7;clear YZ xR C6 R7;have CC:∀u,bR u tb y0 y1 fed done E→u.cell? ⟨tb,5,none⟩=some (.int .i64 (kc:Int)):=fun u hu=>by rw[←hkc];exact hu.oz
        go_wp2_with fail;have T4:bR ({IU with drawn:=IU.drawn+1}:World) tb y0 y1 fed done E:=xq.o.sm ((Ch.refl _ _).drewN 1);have S4:=CC _ T4;have Q4:dF ({IU with drawn:=IU.drawn+1}:World) 0 u7 [(⟨c2,E.t.pen,0⟩,0)]:=dF.sm HR7.o ((Ch.refl _ _).drewN 1);have K4:Ch (· =tb) w ({IU with drawn:=IU.drawn+1}:World):=C7.o.drewN 1;refine dX (S:=fun x=>x.cell? ⟨tb,5,none⟩=some (.int .i64 (kc:Int))) aX ?_;refine ay 0 2 8 3 S4 ?_;simp only[ag,af];refine ay 4 5 6 7 S4 ?_;simp only[ag,af];refine av 1 ?_;refine a_ (vs:=[.pointer (some ⟨tb,0,none⟩)]) (qL tb y0 y1 fed done E _ T4 SY.o) ?_;rintro vr w5 ⟨R5,s5⟩;have T5:=T4.sm s5;have S5:=CC _ T5;have K5:=K4.trans (Sm.ch s5);have Q5:=dF.sm Q4 s5;refine⟨S5,?_⟩
        try simp only[ag,af]
        refine av 9 ?_;refine a_ (vs:=[vr,.int .i64 (kc:Int),u7]) (lX vr u7 E.aP [(⟨c2,E.t.pen,0⟩,0)] kc _ _ w5 R5 Q5 (by omega) (by simp only[fE,eP];omega) (by omega)) ?_;rintro vp w9 ⟨O9,b9⟩;have Tk:Sm w5 w9:=Ch.of_below b9;have T9:=T5.sm Tk;have S9:=CC _ T9;have K9:=K5.trans (Sm.ch Tk);refine⟨S9,?_⟩
        try simp only[ag,af]
        refine aj 10 S9 ?_;simp only[ag,af];refine aC ?_;have HT9:Hid _:=T9;have Pn:Hid _:=K9;have HR9:Hid (dF w9 0 vp (over E.aP kc [(⟨c2,E.t.pen,0⟩,0)])):=(O9.rd).mono (dx _);clear S4 S5 S9 T4 T5 T9 K4 K5 K9 R5 Q4 Q5 s5 b9 Tk O9 CC;obtain⟨H,hH⟩:∃H,H=E.put (over E.aP kc [(⟨c2,E.t.pen,0⟩,0)]):=⟨_,rfl⟩;have QN:E.ED c2 1=H:=by rw[hH];unfold DT.ED mQ;rw[ai (by omega),ai (by omega),hkc,lF];exact Rp E _
        have tH:H.t=E.t∧H.tb.length=40:=by rw[hH];refine⟨(E.qg _).1,?_⟩;rw[(E.qg _).2.1];exact SY.o.tl
        have hP3:=sQ.o;rw[QN]at hP3;have FQ:Hid _:=hP3;have HH:Hid _:=hH;clear hP3 sQ;clear hH QN;go_wp2_with fail;refine(qK tb y0 y1 vp fed done E (over E.aP kc [(⟨c2,E.t.pen,0⟩,0)]) _ HT9.o SY.o HR9.o).mono ?_;rintro e w10 ⟨rfl,a0,a1,t10,k10⟩;rw[←HH.o]at t10;have d5:=t10.oz;have d1:=t10.gX;have d18:=t10.tu;rw[tH.1,hkc]at d5;rw[tH.1]at d1 d18;have PI:Hid _:=t10;have Pk:Hid (Ch (· =tb) w w10):=Pn.o.trans k10;clear t10 k10;have vs:IntKind.i64.wrap ((kc:Int)+1)=(kc:Int)+1:=bD _ (by omega);have vm:IntKind.i64.wrap ((E.t.ah:Int)-1)=(E.t.ah:Int)-1:=bD _ (by omega);by_cases hlt:(kc:Int)+1<(E.t.ah:Int)
        ·have hst:H.rG 1= {H with t:={H.t with col:=(kc:Int)+1}}:=by unfold DT.rG;rw[ak (by rw[tH.1,hkc];exact hlt),show H.t.col=(kc:Int) by rw[tH.1,hkc]];rfl
         have MC:Hid _:=FQ.o.trans hst;clear hst FQ;go_wp2_with fail;go_quiet (fail);have T11:bR (w10.drewN nq) tb a0 a1 fed done H:=PI.o.drewN nq;have K11:Ch (· =tb) w (w10.drewN nq):=Pk.o.drewN nq;generalize w10.drewN nq=U1 at*;have f5:=T11.oz;rw[tH.1,hkc]at f5;have Jl:Hid _:=T11;have Jf:Hid _:=K11;clear T11 K11 d5 d1 d18;go_wp2_with (refine aS rfl 3 dL (.tmp 206) _ rfl rfl {H with t:={H.t with col:=(kc:Int)+1}} 5 (.int .i64 ((kc:Int)+1)) rfl rfl rfl rfl Jl.o tH.2 (by decide) rfl rfl rfl ?_;intro u12 t12 k12;have Es:Hid _:=t12;have Eo:Hid _:=Jf.o.trans k12;clear t12 k12 f5)
         first|go_end0|((try simp only[Exit.inBlock,Exit.then]);refine bX (dz rfl _ _ _) rfl ?_)
         rw[MC.o]
         first|exact⟨rfl,a0,a1,Es.o,Eo.o⟩|exact⟨rfl,⟨a0,a1,Es.o⟩,Eo.o⟩
        ·have hst:H.rG 1= {H with t:={H.t with col:=(E.t.ah:Int)-1,waits:=E.t.wrap}}:=by unfold DT.rG;rw[ai (by rw[tH.1,hkc];exact hlt),tH.1]
         have MC:Hid _:=FQ.o.trans hst;clear hst FQ;go_wp2_with fail;go_quiet (fail);have T11:bR (w10.drewN nq) tb a0 a1 fed done H:=PI.o.drewN nq;have K11:Ch (· =tb) w (w10.drewN nq):=Pk.o.drewN nq;generalize w10.drewN nq=U1 at*;have f1:=T11.gX;rw[tH.1]at f1;have Jl:Hid _:=T11;have Jf:Hid _:=K11;clear T11 K11 d5 d1 d18;go_wp2_with (first|(refine aS rfl 3 dL (.tmp 216) _ rfl rfl {H with t:={H.t with col:=(E.t.ah:Int)-1}} 5 (.int .i64 ((E.t.ah:Int)-1)) rfl rfl rfl rfl Jl.o tH.2 (by decide) rfl rfl rfl ?_;intro u12 t12 k12;have e18:u12.cell? ⟨tb,18,none⟩=some (.bool E.t.wrap):=(by rw[←tH.1];exact t12.tu);have Es:Hid _:=t12;have Eo:Hid _:=Jf.o.trans k12;clear t12 k12 f1)|(refine aS rfl 4 dZ (.tmp 226) _ rfl rfl {H with t:={H.t with col:=(E.t.ah:Int)-1,waits:=E.t.wrap}} 6 (.bool E.t.wrap) rfl rfl rfl rfl Es.o tH.2 (by decide) rfl rfl rfl ?_;intro u13 t13 k13;have PK:Hid _:=t13;have Pm:Hid _:=Eo.o.trans k13;clear t13 k13 e18))
         first|go_end0|((try simp only[Exit.inBlock,Exit.then]);refine bX (dz rfl _ _ _) rfl ?_)
         rw[MC.o]
         first|exact⟨rfl,a0,a1,PK.o,Pm.o⟩|exact⟨rfl,⟨a0,a1,PK.o⟩,Pm.o⟩
end Go.Proofs.YtheibfffilomcaaGreatDoor
