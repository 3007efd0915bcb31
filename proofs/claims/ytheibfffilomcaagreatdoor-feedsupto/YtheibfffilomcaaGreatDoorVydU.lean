import Derived.Test.YtheibfffilomcaaGreatDoorTmaU
import Derived.Test.YtheibfffilomcaaGreatDoorRwaU
import Derived.Test.YtheibfffilomcaaGreatDoorVm1
import Derived.Test.YtheibfffilomcaaGreatDoorVyaU
set_option linter.all false
set_option maxRecDepth 100000
set_option maxHeartbeats 8000000
namespace Go.Proofs.YtheibfffilomcaaGreatDoor
open Go.RowKit Go.Proofs.Tryz
theorem UF(tb:Nat)(v0 v1:Value)(fed:ByteArray)(done:Nat)(d:DT)(c:Int)(w:World)(ht:bR w tb v0 v1 fed done d)(hok:d.Ok)(hid:d.ids≤1000000000)(hwd:j_ c=2)(hcs:d.t.ah≠1):Calls prog 61 #[.pointer (some ⟨tb,0,none⟩),.int .i64 c] w fun e w'=>e= .returned (.tuple #[])∧∃v0' v1',bR w' tb v0' v1' fed done (d.print c 2)∧Ch (· =tb) w w':=by
 have lw:=qo c w;rw[hwd]at lw;have HT:Hid _:=ht;clear ht;go_enter func61,ntmps61;go_wp2_with fail;refine lw.mono ?_;rintro e w1 ⟨rfl,b1⟩;have HT1:Hid (bR w1 tb v0 v1 fed done d):=HT.o.sm (Ch.of_below b1);have C1:Hid (Ch (· =tb) w w1):=Sm.ch (Ch.of_below b1);clear lw b1 HT;have c1:=HT1.o.gX;have b0:((d.t.ah:Int)==1)=false:=by simp;omega
 have b0':decide ((d.t.ah:Int)=1)=false:=by simp;omega
 have hu:=hok.fit.u;have hf1:=hok.fit.f;have hs1:=hok.fit.sc;have eu:d.abs.use=d.t.use:=rfl;have ef:d.abs.first=d.t.first:=rfl;have es:d.abs.second=d.t.second:=rfl;rw[eu]at hu;rw[ef]at hf1;rw[es]at hs1;obtain⟨c2,hC2⟩:∃x,d.abs.spelt c=x:=⟨_,rfl⟩;have W9:Hid (c2=if(if d.t.use=1 then d.t.second else d.t.first)=1 then TS.mY c else c):=by rw[←hC2];rfl
 have n_:Hid _:=hC2;clear hC2;have iV:Hid _:=hok;clear hok;go_upto_region 2 with fail;go_cut [57] from 9 to 56 (fun s57 wc=>s57= .bool (decide ((if d.t.use=1 then d.t.second else d.t.first)=1))∧wc=w1)
 case first=>
  have c14:=HT1.o.VX;have c12:=HT1.o.LK;have c13:=HT1.o.Gp;rcases hu with e1|e1
  ·rw[e1]at c14;clear c13;rcases hf1 with e2|e2
   ·rw[e2]at c12;refine dO ?_;refine au (aQ tb 0) ?_;refine au (aQ tb 0) ?_;refine au (aQ tb 4) ?_;refine au (aQ tb 4) ?_;simp only[ag,af,aQ];refine au (aQ tb 14) ?_;refine iG c14 ?_;refine au (.bool true) ?_;refine au (.bool true) ?_;simp only[ag,af,aQ];refine au (aQ tb 0) ?_;refine au (aQ tb 0) ?_;refine au (aQ tb 4) ?_;refine au (aQ tb 4) ?_;simp only[ag,af,aQ];refine au (aQ tb 12) ?_;refine iG c12 ?_;refine au (.bool false) ?_;refine au (.bool false) ?_;simp only[ag,af,aQ];refine au (.bool false) ?_;refine au (aQ tb 0) ?_;refine au (aQ tb 0) ?_;refine au (aQ tb 4) ?_;simp only[ag,af,aQ];refine au (aQ tb 4) ?_;refine au (aQ tb 14) ?_;refine iG c14 ?_;refine au (.bool false) ?_;simp only[ag,af,aQ];refine au (.bool false) ?_;refine aR ?_;refine aR ?_;refine aR ?_;simp only[ag,af];refine aR ?_;refine aR ?_;refine aR ?_;refine aR ?_;simp only[ag,af];refine au (.bool false) ?_;refine au (.bool false) ?_;simp only[ag,af];refine WL.nil ?_;go_wp2_with fail;go_meet;exact⟨by rw[e1,e2];rfl,rfl⟩
   ·rw[e2]at c12;refine dO ?_;refine au (aQ tb 0) ?_;refine au (aQ tb 0) ?_;refine au (aQ tb 4) ?_;refine au (aQ tb 4) ?_;simp only[ag,af,aQ];refine au (aQ tb 14) ?_;refine iG c14 ?_;refine au (.bool true) ?_;refine au (.bool true) ?_;simp only[ag,af,aQ];refine au (aQ tb 0) ?_;refine au (aQ tb 0) ?_;refine au (aQ tb 4) ?_;refine au (aQ tb 4) ?_;simp only[ag,af,aQ];refine au (aQ tb 12) ?_;refine iG c12 ?_;refine au (.bool true) ?_;refine au (.bool true) ?_;simp only[ag,af,aQ];refine au (.bool true) ?_;refine aR ?_;refine aR ?_;refine aR ?_;simp only[ag,af];refine aR ?_;refine aR ?_;refine aR ?_;refine aR ?_;simp only[ag,af];refine aR ?_;refine aR ?_;refine aR ?_;refine aR ?_;simp only[ag,af];refine aR ?_;refine aR ?_;refine aR ?_;refine aR ?_;simp only[ag,af];refine aR ?_;refine au (.bool true) ?_;simp only[ag,af];refine WL.nil ?_;go_wp2_with fail;go_meet;exact⟨by rw[e1,e2];rfl,rfl⟩
  ·rw[e1]at c14;clear c12;rcases hs1 with e2|e2
   ·rw[e2]at c13;refine dO ?_;refine au (aQ tb 0) ?_;refine au (aQ tb 0) ?_;refine au (aQ tb 4) ?_;refine au (aQ tb 4) ?_;simp only[ag,af,aQ];refine au (aQ tb 14) ?_;refine iG c14 ?_;refine au (.bool false) ?_;refine au (.bool false) ?_;simp only[ag,af,aQ];refine aR ?_;refine aR ?_;refine aR ?_;refine aR ?_;simp only[ag,af];refine aR ?_;refine aR ?_;refine aR ?_;refine au (.bool false) ?_;simp only[ag,af];refine au (.bool false) ?_;refine au (aQ tb 0) ?_;refine au (aQ tb 0) ?_;refine au (aQ tb 4) ?_;simp only[ag,af,aQ];refine au (aQ tb 4) ?_;refine au (aQ tb 14) ?_;refine iG c14 ?_;refine au (.bool true) ?_;simp only[ag,af,aQ];refine au (.bool true) ?_;refine au (aQ tb 0) ?_;refine au (aQ tb 0) ?_;refine au (aQ tb 4) ?_;simp only[ag,af,aQ];refine au (aQ tb 4) ?_;refine au (aQ tb 13) ?_;refine iG c13 ?_;refine au (.bool false) ?_;simp only[ag,af,aQ];refine au (.bool false) ?_;refine au (.bool false) ?_;simp only[ag,af];refine WL.nil ?_;go_wp2_with fail;go_meet;exact⟨by rw[e1,e2];rfl,rfl⟩
   ·rw[e2]at c13;refine dO ?_;refine au (aQ tb 0) ?_;refine au (aQ tb 0) ?_;refine au (aQ tb 4) ?_;refine au (aQ tb 4) ?_;simp only[ag,af,aQ];refine au (aQ tb 14) ?_;refine iG c14 ?_;refine au (.bool false) ?_;refine au (.bool false) ?_;simp only[ag,af,aQ];refine aR ?_;refine aR ?_;refine aR ?_;refine aR ?_;simp only[ag,af];refine aR ?_;refine aR ?_;refine aR ?_;refine au (.bool false) ?_;simp only[ag,af];refine au (.bool false) ?_;refine au (aQ tb 0) ?_;refine au (aQ tb 0) ?_;refine au (aQ tb 4) ?_;simp only[ag,af,aQ];refine au (aQ tb 4) ?_;refine au (aQ tb 14) ?_;refine iG c14 ?_;refine au (.bool true) ?_;simp only[ag,af,aQ];refine au (.bool true) ?_;refine au (aQ tb 0) ?_;refine au (aQ tb 0) ?_;refine au (aQ tb 4) ?_;simp only[ag,af,aQ];refine au (aQ tb 4) ?_;refine au (aQ tb 13) ?_;refine iG c13 ?_;refine au (.bool true) ?_;simp only[ag,af,aQ];refine au (.bool true) ?_;refine au (.bool true) ?_;simp only[ag,af];refine WL.nil ?_;go_wp2_with fail;go_meet;exact⟨by rw[e1,e2];rfl,rfl⟩
 case rest=>
  generalize hwc:wc=wc1 at*;clear hwc wc;obtain⟨rfl,YB⟩:=hcut;subst YB;clear hu hf1 hs1 eu ef es;go_upto_if 57 with fail;go_cut [1] from 57 to 59 (fun s1 OB=>s1= .int .i64 c2∧Sm wc1 OB)
  case first=>
   as_aux_lemma=>
    by_cases hA:(if d.t.use=1 then d.t.second else d.t.first)=1
    ·rw[iP hA];go_wp2_with fail;refine(Dt c _).mono ?_;rintro e w2 ⟨rfl,s2⟩;go_wp2_with fail;go_meet;exact⟨by rw[W9.o,ak hA],s2⟩
    ·rw[jh hA];go_wp2_with fail;go_meet;exact⟨by rw[W9.o,ai hA],Ch.refl _ _⟩
  case rest=>
   generalize hwc:wc=OB at*;clear hwc wc;obtain⟨rfl,wI⟩:=hcut;have HT2:Hid (bR OB tb v0 v1 fed done d):=HT1.o.sm wI;have C2:Hid (Ch (· =tb) w OB):=C1.o.trans (Sm.ch wI);clear wI HT1 C1 c1;go_upto_region 4 with fail;go_cut [5] from 60 to 75 (fun s5 K3=>s5= .bool (decide (d.t.col=(d.t.ah:Int)-1))∧Sm OB K3)
   case first=>
    as_aux_lemma=>
     have c5:=HT2.o.oz;have c1:=HT2.o.gX;have hc2:d.t.ah≤40:=iV.o.inv.c2;have vw:IntKind.i64.wrap ((d.t.ah:Int)-1)=(d.t.ah:Int)-1:=bD _ (by omega);go_quiet (fail);go_wp2_with fail;go_meet;refine⟨?_,(Ch.refl _ _).drewN _⟩
     first|rfl|(congr 1;first|rfl|simp)
   case rest=>
    generalize hwc:wc=K3 at*;clear hwc wc;obtain⟨rfl,FW⟩:=hcut;have HT3:Hid (bR K3 tb v0 v1 fed done d):=HT2.o.sm FW;have C3:Hid (Ch (· =tb) w K3):=C2.o.trans (Sm.ch FW);clear FW HT2 C2;go_upto_region 5 with fail;go_cut [5,91] from 76 to 90 (fun s5 s91 Tm=>s5= .bool (decide (d.t.col=(d.t.ah:Int)-1))∧s91= .bool (d.t.waits||(decide (d.t.col=(d.t.ah:Int)-1)&&d.t.wrap))∧Tm=K3)
    case first=>
     as_aux_lemma=>
      have c6:=HT3.o.LM;have c18:=HT3.o.tu;by_cases ht:d.t.col=(d.t.ah:Int)-1
      ·rw[iP ht];cases ew:d.t.waits with
       |true=>rw[ew]at c6;clear c18;refine dO ?_;refine au (aQ tb 0) ?_;refine au (aQ tb 0) ?_;refine au (aQ tb 4) ?_;refine au (aQ tb 4) ?_;simp only[ag,af,aQ];refine au (aQ tb 6) ?_;refine qw c6 ?_;refine au (.bool true) ?_;refine aR ?_;simp only[ag,af,aQ];refine aR ?_;refine aR ?_;refine aR ?_;refine aR ?_;simp only[ag,af];refine aR ?_;refine aR ?_;refine aR ?_;refine au (.bool true) ?_;simp only[ag,af];refine WL.nil ?_;go_wp2_with fail;go_meet;exact⟨by rw[iP ht],by rw[ew,iP ht];rfl,rfl⟩
       |false=>
        rw[ew]at c6;cases er:d.t.wrap with
        |true=>rw[er]at c18;refine dO ?_;refine au (aQ tb 0) ?_;refine au (aQ tb 0) ?_;refine au (aQ tb 4) ?_;refine au (aQ tb 4) ?_;simp only[ag,af,aQ];refine au (aQ tb 6) ?_;refine qw c6 ?_;refine au (.bool false) ?_;refine au (.bool true) ?_;simp only[ag,af,aQ];refine au (.bool true) ?_;refine au (aQ tb 0) ?_;refine au (aQ tb 0) ?_;refine au (aQ tb 4) ?_;simp only[ag,af,aQ];refine au (aQ tb 18) ?_;refine qw c18 ?_;refine au (.bool true) ?_;refine au (.bool true) ?_;simp only[ag,af,aQ];refine WL.nil ?_;go_wp2_with fail;go_meet;exact⟨by rw[iP ht],by rw[ew,er,iP ht];rfl,rfl⟩
        |false=>rw[er]at c18;refine dO ?_;refine au (aQ tb 0) ?_;refine au (aQ tb 0) ?_;refine au (aQ tb 4) ?_;refine au (aQ tb 4) ?_;simp only[ag,af,aQ];refine au (aQ tb 6) ?_;refine qw c6 ?_;refine au (.bool false) ?_;refine au (.bool true) ?_;simp only[ag,af,aQ];refine au (.bool true) ?_;refine au (aQ tb 0) ?_;refine au (aQ tb 0) ?_;refine au (aQ tb 4) ?_;simp only[ag,af,aQ];refine au (aQ tb 18) ?_;refine qw c18 ?_;refine au (.bool false) ?_;refine au (.bool false) ?_;simp only[ag,af,aQ];refine WL.nil ?_;go_wp2_with fail;go_meet;exact⟨by rw[iP ht],by rw[ew,er,iP ht];rfl,rfl⟩
      ·rw[jh ht];clear c18;cases ew:d.t.waits with
       |true=>rw[ew]at c6;refine dO ?_;refine au (aQ tb 0) ?_;refine au (aQ tb 0) ?_;refine au (aQ tb 4) ?_;refine au (aQ tb 4) ?_;simp only[ag,af,aQ];refine au (aQ tb 6) ?_;refine qw c6 ?_;refine au (.bool true) ?_;refine aR ?_;simp only[ag,af,aQ];refine aR ?_;refine aR ?_;refine aR ?_;refine aR ?_;simp only[ag,af];refine aR ?_;refine aR ?_;refine aR ?_;refine au (.bool true) ?_;simp only[ag,af];refine WL.nil ?_;go_wp2_with fail;go_meet;exact⟨by rw[jh ht],by rw[ew,jh ht];rfl,rfl⟩
       |false=>rw[ew]at c6;refine dO ?_;refine au (aQ tb 0) ?_;refine au (aQ tb 0) ?_;refine au (aQ tb 4) ?_;refine au (aQ tb 4) ?_;simp only[ag,af,aQ];refine au (aQ tb 6) ?_;refine qw c6 ?_;refine au (.bool false) ?_;refine au (.bool false) ?_;simp only[ag,af,aQ];refine au (.bool false) ?_;refine aR ?_;refine aR ?_;refine aR ?_;simp only[ag,af];refine aR ?_;refine aR ?_;refine au (.bool false) ?_;refine au (.bool false) ?_;simp only[ag,af];refine WL.nil ?_;go_wp2_with fail;go_meet;exact⟨by rw[jh ht],by rw[ew,jh ht];rfl,rfl⟩
    case rest=>
     generalize hwc:wc=Tm at*;clear hwc wc;obtain⟨rfl,rfl,YC⟩:=hcut;subst YC;go_upto_if 91 with fail;go_cut [5] from 91 to 104 (fun s5 El=>∃x0 x1 D,bR El tb x0 x1 fed done D∧Ch (· =tb) w El∧D.Ok∧D.t.ah=d.t.ah∧D.t.col+(2:Int)≤(d.t.ah:Int)∧D.ids=d.ids∧d.print c 2=D.fo c2 2)
     case first=>
      as_aux_lemma=>
       by_cases hW:(d.t.waits||(decide (d.t.col=(d.t.ah:Int)-1)&&d.t.wrap))=true
       ·have hp:d.print c 2=d.pO.fo c2 2:=by
         unfold DT.print
         rw[ai (by omega),ak (by
          rcases Bool.or_eq_true _ _▸hW with h|h
          ·exact .inl h
          ·rw[Bool.and_eq_true,AR]at h;exact .inr ⟨⟨rfl,h.1⟩,h.2⟩)]
         rw[n_.o]
        rw[hW];have htl:=iV.o.tl;go_wp2_with (first|(refine aS rfl 4 dZ (.tmp 96) _ rfl rfl {d with t:={d.t with waits:=false}} 6 (.bool false) rfl rfl rfl rfl HT3.o htl (by decide) rfl rfl rfl ?_;intro u4 t4 k4;have rV:Hid _:=t4;have qY:Hid _:=k4;clear t4 k4)|(refine aS rfl 3 dL (.tmp 101) _ rfl rfl {d with t:={d.t with waits:=false,col:=0}} 5 (.int .i64 0) rfl rfl rfl rfl rV.o htl (by decide) rfl rfl rfl ?_;intro u5 t5 k5;have Am:Hid _:=t5;have Jg:Hid _:=k5;clear t5 k5));refine(oI tb v0 v1 fed done _ _ Am.o (Hr iV.o)).mono ?_;rintro e w6 ⟨rfl,x0,x1,t6,k6⟩;have xR:Hid _:=t6;have TH:Hid _:=k6;clear t6 k6;go_wp2_with fail;go_meet;have nt:=DT.JJ {d with t:={d.t with waits:=false,col:=0}};have hcc:=iV.o.inv.c1;have e2:d.abs.ah=d.t.ah:=rfl;exact⟨x0,x1,d.pO,xR.o,((C3.o.trans qY.o).trans Jg.o).trans TH.o,(DT.E5 iV.o).1,nt.2.2,by show d.pO.t.col+_≤_;rw[show d.pO.t.col=0 from nt.2.1];omega,Ht d,hp⟩
       ·have hWf:(d.t.waits||(decide (d.t.col=(d.t.ah:Int)-1)&&d.t.wrap))=false:=by simpa using hW
        have hwf:d.t.waits=false:=by cases e:d.t.waits with|false=>rfl|true=>rw[e]at hWf;cases hWf
        rw[hWf];by_cases ht:d.t.col=(d.t.ah:Int)-1
        ·have hwr:d.t.wrap=false:=by cases e:d.t.wrap with|false=>rfl|true=>rw[e,iP ht,hwf]at hWf;cases hWf
         have hp:d.print c 2=d:=by unfold DT.print;rw[ai (by omega),ai (by rintro(x|⟨_,x⟩);rw[hwf]at x;cases x;rw[hwr]at x;cases x),ak ⟨rfl,ht⟩]
         rw[iP ht];go_wp2_with fail
         first|go_end0|((try simp only[Exit.inBlock,Exit.then]);refine bX (dz rfl _ _ _) rfl ?_)
         rw[hp]
         first|exact⟨rfl,v0,v1,HT3.o,C3.o⟩|exact⟨rfl,⟨v0,v1,HT3.o⟩,C3.o⟩
        ·have hp:d.print c 2=d.fo c2 2:=by unfold DT.print;rw[ai (by omega),ai (by rintro(x|⟨⟨_,x⟩,_⟩);rw[hwf]at x;cases x;exact ht x),ai (by rintro⟨_,x⟩;exact ht x),n_.o]
         rw[jh ht];go_wp2_with fail;go_meet;obtain⟨kc,hkc,hkl⟩:=iV.o.cl;exact⟨v0,v1,d,HT3.o,C3.o,iV.o,rfl,by omega,rfl,hp⟩
     case rest=>
      generalize hwc:wc=El at*;clear hwc wc;obtain⟨x0,x1,D,t5,k5,okD,hDc,hDl,hDi,hP⟩:=hcut;have HP:Hid _:=hP;have Am:Hid _:=t5;have C5:Hid _:=k5;have Jj:Hid _:=okD;have QI:D.ids≤1000000000:=by omega
      clear t5 k5 okD hP HT3 C3 iV;have c19:=Am.o.Bf;obtain⟨kc,hkc,hkl⟩:=Jj.o.cl;have hrl:=Jj.o.rn.2;have UR:D.t.ah≤40:=Jj.o.inv.c2;go_upto_if 109 with fail;go_cut [6] from 105 to 122 (fun s6 K_=>∃y0 y1,bR K_ tb y0 y1 fed done (D.nI 2)∧Ch (· =tb) w K_)
      case first=>
       as_aux_lemma=>
        cases hI:D.t.insert with
        |true=>
         have Dc:Hid (D.nI 2=D.put (pushed D.aP kc 2)):=by show _=_;unfold DT.nI;rw[ak hI,hkc,lF]
         have CC:∀u,bR u tb x0 x1 fed done D→u.cell? ⟨tb,5,none⟩=some (.int .i64 (kc:Int)):=fun u hu=>by rw[←hkc];exact hu.oz
         go_wp2_with fail;have T4:bR ({El with drawn:=El.drawn+1}:World) tb x0 x1 fed done D:=Am.o.sm ((Ch.refl _ _).drewN 1);have S4:=CC _ T4;have K4:Ch (· =tb) w ({El with drawn:=El.drawn+1}:World):=C5.o.drewN 1;refine dX (S:=fun x=>x.cell? ⟨tb,5,none⟩=some (.int .i64 (kc:Int))) aX ?_;refine ay 0 2 8 3 S4 ?_;simp only[ag,af];refine ay 4 5 6 7 S4 ?_;simp only[ag,af];refine av 1 ?_;refine a_ (vs:=[.pointer (some ⟨tb,0,none⟩)]) (qL tb x0 x1 fed done D _ T4 Jj.o) ?_;rintro vr w5 ⟨R5,s5⟩;have T5:=T4.sm s5;have S5:=CC _ T5;have K5:=K4.trans (Sm.ch s5);refine⟨S5,?_⟩
         try simp only[ag,af]
         refine av 9 ?_;refine a_ (vs:=[vr,.int .i64 (kc:Int),.int .i64 2]) (xE vr D.aP kc 2 _ w5 R5 (by omega) (by omega) (by omega) (by omega)) ?_;rintro vp w6 ⟨O6,b6⟩;have Ob:Sm w5 w6:=Ch.of_below b6;have T6:=T5.sm Ob;have S6:=CC _ T6;have K6:=K5.trans (Sm.ch Ob);refine⟨S6,?_⟩
         try simp only[ag,af]
         refine aj 10 S6 ?_;simp only[ag,af];refine aC ?_;have xR:Hid _:=T6;have TH:Hid _:=K6;have HR6:Hid (dF w6 0 vp (pushed D.aP kc 2)):=(O6.rd).mono (dx _);clear S4 S5 S6 T4 T5 T6 K4 K5 K6 R5 s5 b6 Ob O6 CC;go_wp2_with fail;refine(qK tb x0 x1 vp fed done D (pushed D.aP kc 2) _ xR.o Jj.o HR6.o).mono ?_;rintro e w7 ⟨rfl,z0,z1,t7,k7⟩;have xq:Hid _:=t7;have Al:Hid _:=TH.o.trans k7;clear t7 k7;go_wp2_with fail;go_meet;exact⟨z0,z1,by rw[Dc.o];exact xq.o,Al.o⟩
        |false=>
         have Dc:Hid (D.nI 2=D):=by show _=_;unfold DT.nI;rw[ai (by rw[hI];decide)]
         go_wp2_with fail;go_meet;exact⟨x0,x1,by rw[Dc.o];exact Am.o,C5.o⟩
      case rest=>
       generalize hwc:wc=K_ at*;clear hwc wc;obtain⟨y0,y1,t6,k6⟩:=hcut;obtain⟨E,hE⟩:∃E,E=D.nI 2:=⟨_,rfl⟩;have Vf:E.Ok:=by rw[hE];exact(DT.EU Jj.o 2 (by omega)).1
       have tE:E.t=D.t∧E.tb=D.tb∧E.ids=D.ids:=by rw[hE];exact D.EW 2
       rw[←hE]at t6;have hX:d.print c 2=(E.ED c2 2).rG 2:=by rw[HP.o];unfold DT.fo;rw[←hE]
       have sQ:Hid _:=hX;rw[←tE.1]at hkc hkl UR hDl hDc;have hcl:kc+2≤E.t.ah:=by omega
       have ab_:=Vf.rn.2;have hie:E.ids≤1000000000:=by rw[tE.2.2];exact QI
       have htl:=Vf.tl;have xR:Hid _:=t6;have C6:Hid _:=k6;have SY:Hid _:=Vf;clear t6 k6 Vf hX hE HP Am C5 Jj tE hDl hDc hDi QI hrl c19;go_upto_region 13 with fail;go_cut [7] from 123 to 132 (fun s7 IU=>dF IU 0 s7 [(⟨c2,E.t.pen,0⟩,0)]∧Sm K_ IU)
       case first=>have RG:K_.rangeAt tb 7 (dG E.t.pen):=xR.o.range 7 _ rfl;refine dO ?_;refine au (.int .i64 c2) ?_;refine au (aQ tb 0) ?_;refine au (aQ tb 0) ?_;refine au (aQ tb 4) ?_;simp only[ag,af,aQ];refine au (aQ tb 4) ?_;refine au (aQ tb 7) ?_;simp only[ag,af,aQ];refine Sn (d:=129) (v:=(.agg (aW E.t.pen))) rfl (kz (S:=fun x=>x.rangeAt tb 7 (dG E.t.pen)) (by rfl) 80 (.tmp 128) rfl tb 7 rfl (dG E.t.pen) _ (fun x h=>h) underlying80 rfl eH) RG ?_;simp only[ag,af];refine au (.agg (dw ⟨c2,E.t.pen,0⟩)) ?_;refine au (.agg (Dr (⟨c2,E.t.pen,0⟩,0))) ?_;simp only[ag,af];refine⟨?_⟩;refine pU _ rfl (.tmp 131) rfl (⟨c2,E.t.pen,0⟩,0) rfl ?_;go_wp2_with fail;go_meet;exact⟨dF.acH _ _,(Ch.refl _ _).alloc _⟩
       case rest=>
        generalize hwc:wc=IU at*;clear hwc wc;obtain⟨R7,YZ⟩:=hcut;have xq:Hid (bR IU tb y0 y1 fed done E):=xR.o.sm YZ;have C7:Hid (Ch (· =tb) w IU):=C6.o.trans (Sm.ch YZ);have HR7:Hid _:=R7;clear YZ xR C6 R7;go_upto_if 134 with fail;go_cut [7] from 133 to 167 (fun s7 Tn=>∃z0 z1,bR Tn tb z0 z1 fed done {E with ids:=E.ids+1}∧dF Tn 0 s7 [(⟨c2,E.t.pen,1⟩,E.ids+1),(⟨0,E.t.pen,2⟩,E.ids+1)]∧Ch (· =tb) w Tn)
        case first=>
         have c87:=xq.o.VW htl;have hi0:=SY.o.I7;have vi:IntKind.i64.wrap (E.ids+1)=E.ids+1:=bD _ (by omega);go_wp2_with (refine aS rfl 3 dL (.tmp 141) _ rfl rfl {E with ids:=E.ids+1} 87 (.int .i64 (E.ids+1)) rfl rfl rfl rfl xq.o htl (by decide) (AV _ _ _ _ E _ htl) rfl rfl ?_;intro u8 t8 k8;have HT8:Hid _:=t8;have HK8:Hid (Ch (· =tb) w u8):=C7.o.trans k8;clear t8 k8 c87);have CC:∀u,bR u tb y0 y1 fed done {E with ids:=E.ids+1}→u.cell? ⟨tb,87,none⟩=some (.int .i64 (E.ids+1))∧u.rangeAt tb 7 (dG E.t.pen):=fun u hu=>⟨hu.VW htl,hu.range 7 _ rfl⟩;have T8:bR ({u8 with drawn:=u8.drawn+1}:World) tb y0 y1 fed done {E with ids:=E.ids+1}:=HT8.o.sm ((Ch.refl _ _).drewN 1);have S8:=CC _ T8;refine dX (S:=fun x=>x.cell? ⟨tb,87,none⟩=some (.int .i64 (E.ids+1))∧x.rangeAt tb 7 (dG E.t.pen)) aX ?_;refine ay 0 1 8 13 S8 ?_;simp only[ag,af];refine ay 20 2 9 14 S8 ?_;simp only[ag,af];refine ay 21 3 10 15 S8 ?_;simp only[ag,af];refine ay 22 4 11 16 S8 ?_;simp only[ag,af];refine dH 23 5 17 S8 ?_;simp only[ag,af];refine aj 6 S8 ?_ (v:=.agg (aW E.t.pen)) (hy:=(kz (by rfl) 80 (.tmp 147) rfl tb 7 rfl (dG E.t.pen) _ (fun x h=>h.2) underlying80 rfl eH));simp only[ag,af];refine aj 18 S8 ?_ (v:=.agg (aW E.t.pen)) (hy:=(kz (by rfl) 80 (.tmp 159) rfl tb 7 rfl (dG E.t.pen) _ (fun x h=>h.2) underlying80 rfl eH));simp only[ag,af];refine aj 7 S8 ?_ (v:=.agg (dw ⟨c2,E.t.pen,1⟩)) (hy:=(Or.inl ⟨by rfl,fun x _=>by kernel_rfl⟩));simp only[ag,af];refine aj 19 S8 ?_ (v:=.agg (dw ⟨0,E.t.pen,2⟩)) (hy:=(Or.inl ⟨by rfl,fun x _=>by kernel_rfl⟩));simp only[ag,af];refine aj 12 S8 ?_ (v:=.agg (Dr (⟨c2,E.t.pen,1⟩,E.ids+1))) (hy:=(Or.inl ⟨by rfl,fun x _=>by kernel_rfl⟩));simp only[ag,af];refine aj 24 S8 ?_ (v:=.agg (Dr (⟨0,E.t.pen,2⟩,E.ids+1))) (hy:=(Or.inl ⟨by rfl,fun x _=>by kernel_rfl⟩));simp only[ag,af];refine av 25 ?_;refine VE 167 (.tmp 154) (.tmp 166) rfl rfl (⟨c2,E.t.pen,1⟩,E.ids+1) (⟨0,E.t.pen,2⟩,E.ids+1) rfl rfl ?_;have T9:bR (({u8 with drawn:=u8.drawn+1}:World).alloc (.cells (pz [(⟨c2,E.t.pen,1⟩,E.ids+1),(⟨0,E.t.pen,2⟩,E.ids+1)]).toArray 177)) tb y0 y1 fed done {E with ids:=E.ids+1}:=T8.sm ((Ch.refl _ _).alloc _);have S9:=CC _ T9;refine⟨S9,?_⟩
         try simp only[ag,af]
         refine aj 26 S9 ?_;simp only[ag,af];refine aC ?_;have HT9:Hid _:=T9;have Pn:Hid (Ch (· =tb) w (({u8 with drawn:=u8.drawn+1}:World).alloc (.cells (pz [(⟨c2,E.t.pen,1⟩,E.ids+1),(⟨0,E.t.pen,2⟩,E.ids+1)]).toArray 177))):=(HK8.o.drewN 1).alloc _;clear T9 T8 S8 S9 CC;go_wp2_with fail;go_meet;refine⟨y0,y1,HT9.o,?_,Pn.o⟩;exact dF.new _ [(⟨c2,E.t.pen,1⟩,E.ids+1),(⟨0,E.t.pen,2⟩,E.ids+1)] (by simp)
        case rest=>
         generalize hwc:wc=Tn at*;clear hwc wc;obtain⟨z0,z1,t8,R8,k8⟩:=hcut;have okG:=YD SY.o (show E.ids≤E.ids+1 by omega);obtain⟨G,hG⟩:∃G,G=({E with ids:=E.ids+1}:DT):=⟨_,rfl⟩;rw[←hG]at t8 okG;have HT8:Hid _:=t8;have C8:Hid _:=k8;have HR8:Hid _:=R8;have HOG:Hid _:=okG;have tG:G.t=E.t∧G.aP=E.aP:=by rw[hG];exact⟨rfl,rfl⟩
         have hch:∀r,G.put r=({E.put r with ids:=E.ids+1}:DT):=fun r=>by rw[hG];exact Vi E _ r
         clear t8 k8 R8 okG xq C7 HR7 hG;have CC:∀u,bR u tb z0 z1 fed done G→u.cell? ⟨tb,5,none⟩=some (.int .i64 (kc:Int)):=fun u hu=>by rw[←hkc, ←tG.1];exact hu.oz
         have ajc:G.aP.length=E.t.ah:=by rw[tG.2];exact ab_
         go_wp2_with fail;have T4:bR ({Tn with drawn:=Tn.drawn+1}:World) tb z0 z1 fed done G:=HT8.o.sm ((Ch.refl _ _).drewN 1);have S4:=CC _ T4;have Q4:dF ({Tn with drawn:=Tn.drawn+1}:World) 0 u7 [(⟨c2,E.t.pen,1⟩,E.ids+1),(⟨0,E.t.pen,2⟩,E.ids+1)]:=dF.sm HR8.o ((Ch.refl _ _).drewN 1);have K4:Ch (· =tb) w ({Tn with drawn:=Tn.drawn+1}:World):=C8.o.drewN 1;refine dX (S:=fun x=>x.cell? ⟨tb,5,none⟩=some (.int .i64 (kc:Int))) aX ?_;refine ay 0 2 8 3 S4 ?_;simp only[ag,af];refine ay 4 5 6 7 S4 ?_;simp only[ag,af];refine av 1 ?_;refine a_ (vs:=[.pointer (some ⟨tb,0,none⟩)]) (qL tb z0 z1 fed done G _ T4 HOG.o) ?_;rintro vr w5 ⟨R5,s5⟩;have T5:=T4.sm s5;have S5:=CC _ T5;have K5:=K4.trans (Sm.ch s5);have Q5:=dF.sm Q4 s5;refine⟨S5,?_⟩
         try simp only[ag,af]
         refine av 9 ?_;refine a_ (vs:=[vr,.int .i64 (kc:Int),u7]) (lX vr u7 G.aP [(⟨c2,E.t.pen,1⟩,E.ids+1),(⟨0,E.t.pen,2⟩,E.ids+1)] kc _ _ w5 R5 Q5 (by omega) (by simp only[fE,eP];omega) (by omega)) ?_;rintro vp w9 ⟨O9,b9⟩;have Tk:Sm w5 w9:=Ch.of_below b9;have T9:=T5.sm Tk;have S9:=CC _ T9;have K9:=K5.trans (Sm.ch Tk);refine⟨S9,?_⟩
         try simp only[ag,af]
         refine aj 10 S9 ?_;simp only[ag,af];refine aC ?_;have HT9:Hid _:=T9;have Pn:Hid _:=K9;have HR9:Hid (dF w9 0 vp (over G.aP kc [(⟨c2,E.t.pen,1⟩,E.ids+1),(⟨0,E.t.pen,2⟩,E.ids+1)])):=(O9.rd).mono (dx _);clear S4 S5 S9 T4 T5 T9 K4 K5 K9 R5 Q4 Q5 s5 b9 Tk O9 CC;obtain⟨H,hH⟩:∃H,H=G.put (over G.aP kc [(⟨c2,E.t.pen,1⟩,E.ids+1),(⟨0,E.t.pen,2⟩,E.ids+1)]):=⟨_,rfl⟩;have QN:E.ED c2 2=H:=by rw[hH];unfold DT.ED mQ;rw[ak rfl,ak rfl,hch,tG.2,hkc,lF]
         have tH:H.t=E.t∧H.tb.length=40:=by rw[hH];refine⟨(G.qg _).1.trans tG.1,?_⟩;rw[(G.qg _).2.1];exact HOG.o.tl
         have hP3:=sQ.o;rw[QN]at hP3;have FQ:Hid _:=hP3;have HH:Hid _:=hH;clear hP3 sQ;clear hH QN hch;go_wp2_with fail;refine(qK tb z0 z1 vp fed done G (over G.aP kc [(⟨c2,E.t.pen,1⟩,E.ids+1),(⟨0,E.t.pen,2⟩,E.ids+1)]) _ HT9.o HOG.o HR9.o).mono ?_;rintro e w10 ⟨rfl,a0,a1,t10,k10⟩;rw[←HH.o]at t10;have d5:=t10.oz;have d1:=t10.gX;have d18:=t10.tu;rw[tH.1,hkc]at d5;rw[tH.1]at d1 d18;have PI:Hid _:=t10;have Pk:Hid (Ch (· =tb) w w10):=Pn.o.trans k10;clear t10 k10;have vs:IntKind.i64.wrap ((kc:Int)+2)=(kc:Int)+2:=bD _ (by omega);have vm:IntKind.i64.wrap ((E.t.ah:Int)-1)=(E.t.ah:Int)-1:=bD _ (by omega);by_cases hlt:(kc:Int)+2<(E.t.ah:Int)
         ·have hst:H.rG 2= {H with t:={H.t with col:=(kc:Int)+2}}:=by unfold DT.rG;rw[ak (by rw[tH.1,hkc];exact hlt),show H.t.col=(kc:Int) by rw[tH.1,hkc]];rfl
          have MC:Hid _:=FQ.o.trans hst;clear hst FQ;go_wp2_with fail;go_quiet (fail);have T11:bR (w10.drewN nq) tb a0 a1 fed done H:=PI.o.drewN nq;have K11:Ch (· =tb) w (w10.drewN nq):=Pk.o.drewN nq;generalize w10.drewN nq=U1 at*;have f5:=T11.oz;rw[tH.1,hkc]at f5;have Jl:Hid _:=T11;have Jf:Hid _:=K11;clear T11 K11 d5 d1 d18;go_wp2_with (refine aS rfl 3 dL (.tmp 206) _ rfl rfl {H with t:={H.t with col:=(kc:Int)+2}} 5 (.int .i64 ((kc:Int)+2)) rfl rfl rfl rfl Jl.o tH.2 (by decide) rfl rfl rfl ?_;intro u12 t12 k12;have Es:Hid _:=t12;have Eo:Hid _:=Jf.o.trans k12;clear t12 k12 f5)
          first|go_end0|((try simp only[Exit.inBlock,Exit.then]);refine bX (dz rfl _ _ _) rfl ?_)
          rw[MC.o]
          first|exact⟨rfl,a0,a1,Es.o,Eo.o⟩|exact⟨rfl,⟨a0,a1,Es.o⟩,Eo.o⟩
         ·have hst:H.rG 2= {H with t:={H.t with col:=(E.t.ah:Int)-1,waits:=E.t.wrap}}:=by unfold DT.rG;rw[ai (by rw[tH.1,hkc];exact hlt),tH.1]
          have MC:Hid _:=FQ.o.trans hst;clear hst FQ;go_wp2_with fail;go_quiet (fail);have T11:bR (w10.drewN nq) tb a0 a1 fed done H:=PI.o.drewN nq;have K11:Ch (· =tb) w (w10.drewN nq):=Pk.o.drewN nq;generalize w10.drewN nq=U1 at*;have f1:=T11.gX;rw[tH.1]at f1;have Jl:Hid _:=T11;have Jf:Hid _:=K11;clear T11 K11 d5 d1 d18;go_wp2_with (first|(refine aS rfl 3 dL (.tmp 216) _ rfl rfl {H with t:={H.t with col:=(E.t.ah:Int)-1}} 5 (.int .i64 ((E.t.ah:Int)-1)) rfl rfl rfl rfl Jl.o tH.2 (by decide) rfl rfl rfl ?_;intro u12 t12 k12;have e18:u12.cell? ⟨tb,18,none⟩=some (.bool E.t.wrap):=(by rw[←tH.1];exact t12.tu);have Es:Hid _:=t12;have Eo:Hid _:=Jf.o.trans k12;clear t12 k12 f1)|(refine aS rfl 4 dZ (.tmp 226) _ rfl rfl {H with t:={H.t with col:=(E.t.ah:Int)-1,waits:=E.t.wrap}} 6 (.bool E.t.wrap) rfl rfl rfl rfl Es.o tH.2 (by decide) rfl rfl rfl ?_;intro u13 t13 k13;have PK:Hid _:=t13;have Pm:Hid _:=Eo.o.trans k13;clear t13 k13 e18))
          first|go_end0|((try simp only[Exit.inBlock,Exit.then]);refine bX (dz rfl _ _ _) rfl ?_)
          rw[MC.o]
          first|exact⟨rfl,a0,a1,PK.o,Pm.o⟩|exact⟨rfl,⟨a0,a1,PK.o⟩,Pm.o⟩
theorem JK(tb:Nat)(v0 v1:Value)(fed:ByteArray)(done:Nat)(d:DT)(c:Int)(w:World)(ht:bR w tb v0 v1 fed done d)(hok:d.Ok)(hid:d.ids≤1000000000):Calls prog 61 #[.pointer (some ⟨tb,0,none⟩),.int .i64 c] w fun e w'=>e= .returned (.tuple #[])∧∃v0' v1',bR w' tb v0' v1' fed done (d.print c (j_ c).toNat)∧Ch (· =tb) w w':=by
 have hw:=uk c;by_cases h1:j_ c=1
 ·rw[h1];exact UE tb v0 v1 fed done d c w ht hok hid h1
 by_cases h2:j_ c=2
 ·by_cases hcs:d.t.ah=1
  ·have lw:=qo c w;rw[h2]at lw ⊢;have hX:d.print c (2:Int).toNat=d:=by unfold DT.print;rw[ak (.inr ⟨rfl,hcs⟩)]
   rw[hX];have HT:Hid _:=ht;clear ht hX hok;go_enter func61,ntmps61;go_wp2_with fail;refine lw.mono ?_;rintro e w1 ⟨rfl,b1⟩;have T1:bR w1 tb v0 v1 fed done d:=HT.o.sm (Ch.of_below b1);have C1:Ch (· =tb) w w1:=Sm.ch (Ch.of_below b1);have c1:=T1.gX;rw[hcs]at c1;have HT1:Hid _:=T1;have Tw:Hid _:=C1;clear lw b1 HT T1 C1;go_wp2_with fail
   first|go_end0|((try simp only[Exit.inBlock,Exit.then]);refine bX (dz rfl _ _ _) rfl ?_)
   first|exact⟨rfl,v0,v1,HT1.o,Tw.o⟩|exact⟨rfl,⟨v0,v1,HT1.o⟩,Tw.o⟩
  ·rw[h2];exact UF tb v0 v1 fed done d c w ht hok hid h2 hcs
 ·have h0:j_ c=0:=by omega
  have lw:=qo c w;rw[h0]at lw ⊢;have hX:d.print c (0:Int).toNat=d:=by unfold DT.print;rw[ak (.inl rfl)]
  rw[hX];have HT:Hid _:=ht;clear ht hX hok;go_enter func61,ntmps61;go_wp2_with fail;refine lw.mono ?_;rintro e w1 ⟨rfl,b1⟩;have HT1:Hid (bR w1 tb v0 v1 fed done d):=HT.o.sm (Ch.of_below b1);have Tw:Hid (Ch (· =tb) w w1):=Sm.ch (Ch.of_below b1);clear lw b1 HT;go_wp2_with fail
  first|go_end0|((try simp only[Exit.inBlock,Exit.then]);refine bX (dz rfl _ _ _) rfl ?_)
  first|exact⟨rfl,v0,v1,HT1.o,Tw.o⟩|exact⟨rfl,⟨v0,v1,HT1.o⟩,Tw.o⟩
theorem XH(tb:Nat)(v0 v1:Value)(fed:ByteArray)(done:Nat)(d:DT)(ev:List Int)(w:World)(ht:bR w tb v0 v1 fed done d)(hok:d.Ok)(hg:jC ev)(hk:ev.getD 0 0=1)(hid:d.ids≤1000000000):Calls prog 30 #[.pointer (some ⟨tb,0,none⟩),.agg (aA ev)] w fun e w'=>e= .returned (.tuple #[])∧∃v0' v1',bR w' tb v0' v1' fed done (d.print (ev.getD 1 0) (j_ (ev.getD 1 0)).toNat)∧Ch (· =tb) w w':=by
 have hl:=hg.len;obtain⟨Bw,Db,nK,oG,HT0,c0,c1,c2,c3,c4⟩:=nP ev ht hl;have iV:Hid d.Ok:=hok;clear ht;rw[hk]at c0;obtain⟨A1,hA1⟩:∃x,ev.getD 1 0=x:=⟨_,rfl⟩;rw[hA1]at c1 ⊢;go_enter func30,ntmps30;go_wp2_with fail;refine(JK tb v0 v1 fed done d _ _ HT0.o iV.o hid).mono ?_;rintro e w1 ⟨rfl,x0,x1,t1,k1⟩;have HT1:Hid _:=t1;have kR:Hid (Ch (· =tb) w w1):=(Sm.ch oG.o).trans k1;clear t1 k1;go_wp2_with fail
 first|go_end0|((try simp only[Exit.inBlock,Exit.then]);refine bX (dz rfl _ _ _) rfl ?_)
 first|exact⟨rfl,x0,x1,HT1.o,kR.o⟩|exact⟨rfl,⟨x0,x1,HT1.o⟩,kR.o⟩
theorem MZ(tb:Nat)(v0 v1:Value)(fed:ByteArray)(done:Nat)(d:DT)(ev:List Int)(w:World)(ht:bR w tb v0 v1 fed done d)(hok:d.Ok)(hg:jC ev)(hid:d.ids≤1000000000):Calls prog 30 #[.pointer (some ⟨tb,0,none⟩),.agg (aA ev)] w fun e w'=>e= .returned (.tuple #[])∧∃v0' v1',bR w' tb v0' v1' fed done (d.does ev)∧Ch (· =tb) w w':=by
 obtain⟨ct,hc16,hct⟩:=hg.ct;unfold DT.does;by_cases h1:ev.getD 0 0=1
 ·rw[ak h1];exact XH tb v0 v1 fed done d ev w ht hok hg h1 hid
 rw[ai h1];by_cases h2:ev.getD 0 0=2
 ·rw[ak h2];exact XI tb v0 v1 fed done d ev w ht hok hg h2
 rw[ai h2];by_cases h3:ev.getD 0 0=3
 ·rw[ak h3];exact XJ tb v0 v1 fed done d ev w ht hok hg h3
 rw[ai h3];by_cases h4:ev.getD 0 0=4
 ·rw[ak h4,hct,lF];by_cases hm:ev.getD 2 0=0
  ·rw[ak hm];exact Uz tb v0 v1 fed done d ev w ht hok hg h4 hm ct hc16 hct
  rw[ai hm];by_cases hq:ev.getD 2 0=63
  ·by_cases ha:ev.getD 3 0=104
   ·rw[ak ⟨hq,.inl ha⟩,iP ha];exact JE tb v0 v1 fed done d ev w ht hok hg h4 hq ha ct hc16 hct
   ·by_cases hb:ev.getD 3 0=108
    ·rw[ak ⟨hq,.inr hb⟩,jh ha];exact JF tb v0 v1 fed done d ev w ht hok hg h4 hq hb ct hc16 hct
    ·rw[ai (by rintro⟨_,x|x⟩;exact ha x;exact hb x)];exact Uy tb v0 v1 fed done d ev w ht hok hg h4 hq ha hb ct hc16 hct
  ·rw[ai (fun x=>hq x.1)];exact Ux tb v0 v1 fed done d ev w ht hok hg h4 hm hq ct hc16 hct
 ·rw[ai h4];exact XG tb v0 v1 fed done d ev w ht hok hg h1 h2 h3 h4
end Go.Proofs.YtheibfffilomcaaGreatDoor
