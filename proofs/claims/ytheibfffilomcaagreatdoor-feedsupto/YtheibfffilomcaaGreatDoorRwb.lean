import Derived.Test.YtheibfffilomcaaGreatDoorTmaU
import Derived.Test.YtheibfffilomcaaGreatDoorRwaU
set_option linter.all false
set_option maxRecDepth 100000
set_option maxHeartbeats 4000000
namespace Go.Proofs.YtheibfffilomcaaGreatDoor
open Go.RowKit Go.Proofs.Tryz
theorem lI.below{w w':World}{ao:Option Addr}{B:List Int}(h:lI w ao B)(hb:Below w.heap.size w w'):lI w' ao B:=fun j x hj=>by obtain⟨b,o,e,hlt,hc⟩:=h j x hj;exact⟨b,o,e,fJ hlt hb.size,(hb.cell hlt).trans hc⟩
theorem BS(n cap:Nat)(ao:Option Addr)(B:List Int)(c:Int)(w:World)(hB:B.length=n)(hn:n≤3000000)(hc:n≤cap)(hbx:∀x∈B,0≤x∧x≤10000000)(hsl:lI w ao B)(hm:∀x r,B=x::r→yu x=false):
 Calls prog 117 #[.slice ao n cap,.int .i64 c] w fun e w'=>e= .returned (.agg (aA (dR B c)))∧Below w.heap.size w w':=by
 have HR:Hid (bZ 0 c B (-1) (0+1) z16 1=dR B c):=by
  show _=_;cases B with
  |nil=>rfl
  |cons x r=>simp only[dR];rw[ai (by simp[hm x r rfl])]
 have UO:=hB;by_cases hn0:n=0
 ·subst hn0;go_enter func117,ntmps117;go_wp2_with (refine b_ _ rfl (.tmp 5) (.tmp 10) rfl (w.heap.size+1) aO ([4,0,0,c,1]++z16) rfl _ rfl rfl rfl 46 (uB w _ _).2 rfl ?_);intro u gE ru zu;have g4:=(ru.block w.heap.size (by simp;omega) (by simp)).trans (uB w _ _).1;have bl:Below w.heap.size w u:=(((dU _ _).alloc (bN _) _).alloc (by simp) _).grown ru (by simp;omega) (fun k e=>by simp at e;omega);have zz:w.heap.size+2≤u.heap.size:=by have:=ru.size;simp at this;omega
  clear ru;go_wp2_with fail
  go_loopw [6,7,8] (fun v al i wr=>∃(k:Nat) (z:Int) (q:Nat) (ps:List Int) (ct:Int),k≤0+1∧i= .int .i64 k∧v= .int .i64 z∧al= .int .i64 ((q:Int)+1)∧ -1≤z∧z≤65535∧q≤k∧ps.length=16∧wr.heap[w.heap.size+1]? =some (.cells (aA ([4,0,0,c,ct]++ps)) 46 (0,0))∧wr.heap[w.heap.size]? =some (.cells (aA aO) 46 (0,0))∧Below w.heap.size w wr∧w.heap.size+2≤wr.heap.size∧
   Hid (if k≤0 then bZ 0 c ((B).drop k) z (q+1) ps ct=dR B c else[4,0,0,c,ct]++ps=dR B c)) (fun _ _ i _=>0+1-(intOf i).toNat)
  case atStart=>exact⟨0,-1,0,z16,1,by omega,rfl,rfl,rfl,by omega,by omega,by omega,rfl,gE,g4,bl,zz,by show(if 0≤0 then _ else _);rw[ak (dx _)];exact HR.o⟩
  case round=>
   obtain⟨k,z,q,ps,ct,hk,rfl,rfl,rfl,hz0,hz1,hqk,hps,gr,pM,br,zr,H⟩:=hrel;by_cases hkn:k≤0
   ·have H0:=H.o;rw[ak hkn]at H0;have ik:(k:Int)≤(0:Int):=by omega
    by_cases hke:k=0
    ·have hdr:(B).drop k=[]:=qB (by rw[UO];omega);rw[hdr]at H0;clear hdr;have Xu:((k:Int)==(0:Int))=true:=by simp;omega
     by_cases hq:q<16
     ·have H2:Hid ([4,0,0,c,((q:Int)+1)]++ps.set q z=dR B c):=by show _=_;rw[←H0];simp only[bZ];rw[ak (show q+1≤16 by omega)];rfl
      clear H0 H;have iq:(q:Int)+1≤16:=by omega
      have YO:(q:Int)<16:=by omega
      have es:([4,0,0,c,ct]++ps).set (5+q) z=[4,0,0,c,ct]++ps.set q z:=by rw[show 5+q=q+1+1+1+1+1 by omega];rfl
      go_wp2_with (refine iJ _ rfl (.tmp 55) (.tmp 53) rfl (w.heap.size+1) (5+q) ([4,0,0,c,ct]++ps) z (by simp[hps];omega) ?_ ?_ 46 gr ?_)
      ·rfl
      ·rfl
      intro u1 g1 r1 z1;have g1':u1.heap[w.heap.size+1]? =some (.cells (aA ([4,0,0,c,ct]++ps.set q z)) 46 (0,0)):=by rw[←es];exact g1
      have g41:=(r1.block w.heap.size (by omega) (by simp)).trans pM;have b1:Below w.heap.size w u1:=br.grown r1 (by omega) (fun k e=>by simp at e;omega);clear gr pM br r1 es;go_wp2_with (refine iJ _ rfl (.tmp 57) (.tmp 56) rfl (w.heap.size+1) 4 ([4,0,0,c,ct]++ps.set q z) ((q:Int)+1) (by simp) ?_ ?_ 46 g1' ?_)
      ·rfl
      ·rfl
      intro u2 g2 r2 z2;have g2':u2.heap[w.heap.size+1]? =some (.cells (aA ([4,0,0,c,((q:Int)+1)]++ps.set q z)) 46 (0,0)):=g2;have g42:=(r2.block w.heap.size (by omega) (by simp)).trans g41;have b2:Below w.heap.size w u2:=b1.grown r2 (by omega) (fun k e=>by simp at e;omega);clear g1 g1' g41 b1 r2 g2;go_wp2_with fail;go_roundw
      case rel=>exact⟨k+1,-1,q+1,ps.set q z,(q:Int)+1,by omega,by go_num,rfl,by go_num,by omega,by omega,by omega,by simp[hps],g2',g42,b2,by omega,by show(if k+1≤0 then _ else _);rw[ai (show¬k+1≤0 by omega)];exact H2.o⟩
      case measure=>simp[intOf];omega
     ·have H2:Hid ([4,0,0,c,ct]++ps=dR B c):=by show _=_;rw[←H0];simp only[bZ];rw[ai (show¬q+1≤16 by omega)]
      clear H0 H;have iq:¬(q:Int)+1≤16:=by omega
      go_wp2_with fail;go_roundw
      case rel=>exact⟨k+1,-1,q+1,ps,ct,by omega,by go_num,rfl,by go_num,by omega,by omega,by omega,by simp[hps],gr,pM,br,by omega,by show(if k+1≤0 then _ else _);rw[ai (show¬k+1≤0 by omega)];exact H2.o⟩
      case measure=>simp[intOf];omega
    ·exfalso;omega
   ·have hke:k=0+1:=by omega
    have ik:¬(k:Int)≤(0:Int):=by omega
    have H2:Hid ([4,0,0,c,ct]++ps=dR B c):=by have:=H.o;rw[ai hkn]at this;exact this
    clear H;go_wp2_with (first|(refine fA _ rfl (.tmp 5) rfl (w.heap.size+1) ([4,0,0,c,ct]++ps) rfl (by simp[hps]) 46 (0,0) gr ?_)|(refine b_ _ rfl (.tmp 4) (.tmp 85) rfl w.heap.size aO ([4,0,0,c,ct]++ps) rfl _ rfl rfl (by simp[hps]) 46 pM rfl ?_));intro v1 kU kI yV;have bv:Below w.heap.size w v1:=br.grown kI (by omega) (fun k e=>by simp at e;omega);have ER:v1.heap[w.heap.size]? =some (.cells (aA (dR B c)) 46 (0,0)):=by rw[←H2.o];exact kU
    go_wp2_with fail;exact bX (iF results117 _ _ w.heap.size (dR B c) (by rw[←H2.o];simp[hps]) 46 (0,0) rfl ER) rfl ⟨rfl,bv⟩
 ·have i0:0<(n:Int):=by omega
  obtain⟨x0,hx0⟩:∃x,B[0]? =some x:=⟨_,eG (by omega)⟩;have hnm:¬(60≤x0∧x0≤63):=by
   cases B with
   |nil=>simp at hx0
   |cons x r=>simp at hx0;subst hx0;have:=hm x r rfl;simp[yu]at this;omega
  obtain⟨b0,o0,rfl,hb0,hc0⟩:=hsl 0 x0 hx0;rw[uw]at hc0;clear hx0 hm;rcases(show x0<60∨63<x0 by omega)with hlo|hhi
  ·have d0:¬60≤x0:=by omega
   clear hnm;go_enter func117,ntmps117;go_wp2_with (refine b_ _ rfl (.tmp 5) (.tmp 10) rfl (w.heap.size+1) aO ([4,0,0,c,1]++z16) rfl _ rfl rfl rfl 46 (uB w _ _).2 rfl ?_);intro u gE ru zu;have g4:=(ru.block w.heap.size (by simp;omega) (by simp)).trans (uB w _ _).1;have bl:Below w.heap.size w u:=(((dU _ _).alloc (bN _) _).alloc (by simp) _).grown ru (by simp;omega) (fun k e=>by simp at e;omega);have zz:w.heap.size+2≤u.heap.size:=by have:=ru.size;simp at this;omega
   clear ru;have QL:=(bl.cell hb0).trans hc0;go_wp2_with fail
   go_loopw [6,7,8] (fun v al i wr=>∃(k:Nat) (z:Int) (q:Nat) (ps:List Int) (ct:Int),k≤n+1∧i= .int .i64 k∧v= .int .i64 z∧al= .int .i64 ((q:Int)+1)∧ -1≤z∧z≤65535∧q≤k∧ps.length=16∧wr.heap[w.heap.size+1]? =some (.cells (aA ([4,0,0,c,ct]++ps)) 46 (0,0))∧wr.heap[w.heap.size]? =some (.cells (aA aO) 46 (0,0))∧Below w.heap.size w wr∧w.heap.size+2≤wr.heap.size∧
    Hid (if k≤n then bZ 0 c ((B).drop k) z (q+1) ps ct=dR B c else[4,0,0,c,ct]++ps=dR B c)) (fun _ _ i _=>n+1-(intOf i).toNat)
   case atStart=>exact⟨0,-1,0,z16,1,by omega,rfl,rfl,rfl,by omega,by omega,by omega,rfl,gE,g4,bl,zz,by show(if 0≤n then _ else _);rw[ak (dx _)];exact HR.o⟩
   case round=>
    obtain⟨k,z,q,ps,ct,hk,rfl,rfl,rfl,hz0,hz1,hqk,hps,gr,pM,br,zr,H⟩:=hrel;by_cases hkn:k≤n
    ·have H0:=H.o;rw[ak hkn]at H0;have ik:(k:Int)≤(n:Int):=by omega
     by_cases hke:k=n
     ·have hdr:(B).drop k=[]:=qB (by rw[UO];omega);rw[hdr]at H0;clear hdr;have Xu:((k:Int)==(n:Int))=true:=by simp;omega
      by_cases hq:q<16
      ·have H2:Hid ([4,0,0,c,((q:Int)+1)]++ps.set q z=dR B c):=by show _=_;rw[←H0];simp only[bZ];rw[ak (show q+1≤16 by omega)];rfl
       clear H0 H;have iq:(q:Int)+1≤16:=by omega
       have YO:(q:Int)<16:=by omega
       have es:([4,0,0,c,ct]++ps).set (5+q) z=[4,0,0,c,ct]++ps.set q z:=by rw[show 5+q=q+1+1+1+1+1 by omega];rfl
       go_wp2_with (refine iJ _ rfl (.tmp 55) (.tmp 53) rfl (w.heap.size+1) (5+q) ([4,0,0,c,ct]++ps) z (by simp[hps];omega) ?_ ?_ 46 gr ?_)
       ·rfl
       ·rfl
       intro u1 g1 r1 z1;have g1':u1.heap[w.heap.size+1]? =some (.cells (aA ([4,0,0,c,ct]++ps.set q z)) 46 (0,0)):=by rw[←es];exact g1
       have g41:=(r1.block w.heap.size (by omega) (by simp)).trans pM;have b1:Below w.heap.size w u1:=br.grown r1 (by omega) (fun k e=>by simp at e;omega);clear gr pM br r1 es;go_wp2_with (refine iJ _ rfl (.tmp 57) (.tmp 56) rfl (w.heap.size+1) 4 ([4,0,0,c,ct]++ps.set q z) ((q:Int)+1) (by simp) ?_ ?_ 46 g1' ?_)
       ·rfl
       ·rfl
       intro u2 g2 r2 z2;have g2':u2.heap[w.heap.size+1]? =some (.cells (aA ([4,0,0,c,((q:Int)+1)]++ps.set q z)) 46 (0,0)):=g2;have g42:=(r2.block w.heap.size (by omega) (by simp)).trans g41;have b2:Below w.heap.size w u2:=b1.grown r2 (by omega) (fun k e=>by simp at e;omega);clear g1 g1' g41 b1 r2 g2;go_wp2_with fail;go_roundw
       case rel=>exact⟨k+1,-1,q+1,ps.set q z,(q:Int)+1,by omega,by go_num,rfl,by go_num,by omega,by omega,by omega,by simp[hps],g2',g42,b2,by omega,by show(if k+1≤n then _ else _);rw[ai (show¬k+1≤n by omega)];exact H2.o⟩
       case measure=>simp[intOf];omega
      ·have H2:Hid ([4,0,0,c,ct]++ps=dR B c):=by show _=_;rw[←H0];simp only[bZ];rw[ai (show¬q+1≤16 by omega)]
       clear H0 H;have iq:¬(q:Int)+1≤16:=by omega
       go_wp2_with fail;go_roundw
       case rel=>exact⟨k+1,-1,q+1,ps,ct,by omega,by go_num,rfl,by go_num,by omega,by omega,by omega,by simp[hps],gr,pM,br,by omega,by show(if k+1≤n then _ else _);rw[ai (show¬k+1≤n by omega)];exact H2.o⟩
       case measure=>simp[intOf];omega
     ·have hkl:k<(B).length:=by rw[UO];omega
      have Xu:((k:Int)==(n:Int))=false:=by simp;omega
      have ikl:(k:Int)<(n:Int):=by omega
      obtain⟨x,hx⟩:∃x,(B)[k]=x:=⟨_,rfl⟩;have hdr:(B).drop k=x::(B).drop (k+1):=by rw[←hx];exact uH hkl
      have hxb:=hbx x (hx▸zW hkl);have V9:(B)[k]? =some x:=by rw[eG hkl,hx]
      obtain⟨bb,oo,hao,hblt,hcell⟩:=hsl k x V9;cases hao;have hcr:=(br.cell hblt).trans hcell;rw[hdr]at H0;clear hdr hx V9 hcell;by_cases h59:x=59
      ·subst h59;by_cases hq:q<16
       ·have H2:Hid (bZ 0 c ((B).drop (k+1)) (-1) (q+1+1) (ps.set q z) ((q:Int)+1)=dR B c):=by show _=_;rw[←H0];simp only[bZ];rw[ak True.intro];rw[ak (show q+1≤16 by omega)];rfl
        clear H0 H;have iq:(q:Int)+1≤16:=by omega
        have YO:(q:Int)<16:=by omega
        have es:([4,0,0,c,ct]++ps).set (5+q) z=[4,0,0,c,ct]++ps.set q z:=by rw[show 5+q=q+1+1+1+1+1 by omega];rfl
        go_wp2_with (refine iJ _ rfl (.tmp 55) (.tmp 53) rfl (w.heap.size+1) (5+q) ([4,0,0,c,ct]++ps) z (by simp[hps];omega) ?_ ?_ 46 gr ?_)
        ·rfl
        ·rfl
        intro u1 g1 r1 z1;have g1':u1.heap[w.heap.size+1]? =some (.cells (aA ([4,0,0,c,ct]++ps.set q z)) 46 (0,0)):=by rw[←es];exact g1
        have g41:=(r1.block w.heap.size (by omega) (by simp)).trans pM;have b1:Below w.heap.size w u1:=br.grown r1 (by omega) (fun k e=>by simp at e;omega);clear gr pM br r1 es;go_wp2_with (refine iJ _ rfl (.tmp 57) (.tmp 56) rfl (w.heap.size+1) 4 ([4,0,0,c,ct]++ps.set q z) ((q:Int)+1) (by simp) ?_ ?_ 46 g1' ?_)
        ·rfl
        ·rfl
        intro u2 g2 r2 z2;have g2':u2.heap[w.heap.size+1]? =some (.cells (aA ([4,0,0,c,((q:Int)+1)]++ps.set q z)) 46 (0,0)):=g2;have g42:=(r2.block w.heap.size (by omega) (by simp)).trans g41;have b2:Below w.heap.size w u2:=b1.grown r2 (by omega) (fun k e=>by simp at e;omega);clear g1 g1' g41 b1 r2 g2;go_wp2_with fail;go_roundw
        case rel=>exact⟨k+1,-1,q+1,ps.set q z,(q:Int)+1,by omega,by go_num,rfl,by go_num,by omega,by omega,by omega,by simp[hps],g2',g42,b2,by omega,by show(if k+1≤n then _ else _);rw[ak (show k+1≤n by omega)];exact H2.o⟩
        case measure=>simp[intOf];omega
       ·have H2:Hid (bZ 0 c ((B).drop (k+1)) (-1) (q+1+1) ps ct=dR B c):=by show _=_;rw[←H0];simp only[bZ];rw[ak True.intro];rw[ai (show¬q+1≤16 by omega)]
        clear H0 H;have iq:¬(q:Int)+1≤16:=by omega
        go_wp2_with fail;go_roundw
        case rel=>exact⟨k+1,-1,q+1,ps,ct,by omega,by go_num,rfl,by go_num,by omega,by omega,by omega,by simp[hps],gr,pM,br,by omega,by show(if k+1≤n then _ else _);rw[ak (show k+1≤n by omega)];exact H2.o⟩
        case measure=>simp[intOf];omega
      ·have b59:(x==59)=false:=by simp[h59]
       by_cases hbad:x<48∨57<x
       ·have H2:Hid (aO=dR B c):=by show _=_;rw[←H0];simp only[bZ];rw[ai h59,ak hbad]
        clear H0 H h59;rcases hbad with hbad|hbad
        ·go_wp2_with (refine b_ _ rfl (.tmp 4) (.tmp 72) rfl w.heap.size aO aO rfl _ rfl rfl rfl 46 pM rfl ?_);intro v1 kU kI yV;have bv:Below w.heap.size w v1:=br.grown kI (by omega) (fun k e=>by simp at e;omega);rw[H2.o]at kU;go_wp2_with fail;exact bX (iF results117 _ _ w.heap.size (dR B c) (H2.o▸rfl) 46 (0,0) rfl kU) rfl ⟨rfl,bv⟩
        ·have nb:¬x<48:=by omega
         go_wp2_with (refine b_ _ rfl (.tmp 4) (.tmp 72) rfl w.heap.size aO aO rfl _ rfl rfl rfl 46 pM rfl ?_);intro v1 kU kI yV;have bv:Below w.heap.size w v1:=br.grown kI (by omega) (fun k e=>by simp at e;omega);rw[H2.o]at kU;go_wp2_with fail;exact bX (iF results117 _ _ w.heap.size (dR B c) (H2.o▸rfl) 46 (0,0) rfl kU) rfl ⟨rfl,bv⟩
       ·have H1:bZ 0 c ((B).drop (k+1)) (min (10*max z 0+x-48) 65535) (q+1) ps ct=dR B c:=by rw[←H0];simp only[bZ];rw[ai h59,ai hbad]
        have nb:¬x<48:=by omega
        have nb2:¬57<x:=by omega
        clear H0 h59 hbad;rcases(show z<0∨z=0∨0<z by omega)with hzn|rfl|hzn
        ·have H1':Hid (bZ 0 c ((B).drop (k+1)) (x-48) (q+1) ps ct=dR B c):=by show _=_;rw[←H1,show min (10*max z 0+x-48) 65535=x-48 by omega]
         clear H1 H;have Ri:x-48≤65535:=by omega
         go_wp2_with fail;go_roundw
         case rel=>exact⟨k+1,x-48,q,ps,ct,by omega,by go_num,by go_num,rfl,by omega,by omega,by omega,hps,gr,pM,br,zr,by show(if k+1≤n then _ else _);rw[ak (show k+1≤n by omega)];exact H1'.o⟩
         case measure=>simp[intOf];omega
        ·have H1':Hid (bZ 0 c ((B).drop (k+1)) (x-48) (q+1) ps ct=dR B c):=by show _=_;rw[←H1,show min (10*max 0 0+x-48) 65535=x-48 by omega]
         clear H1 H;have Ri:x-48≤65535:=by omega
         go_wp2_with fail;go_roundw
         case rel=>exact⟨k+1,x-48,q,ps,ct,by omega,by go_num,by go_num,rfl,by omega,by omega,by omega,hps,gr,pM,br,zr,by show(if k+1≤n then _ else _);rw[ak (show k+1≤n by omega)];exact H1'.o⟩
         case measure=>simp[intOf];omega
        ·have nzn:¬z<0:=by omega
         by_cases hbig:10*z+x-48≤65535
         ·have H2:Hid (bZ 0 c ((B).drop (k+1)) (10*z+x-48) (q+1) ps ct=dR B c):=by show _=_;rw[←H1,show min (10*max z 0+x-48) 65535=10*z+x-48 by omega]
          have nz0: -1≤10*z+x-48:=by omega
          have Ri:10*z+x-48≤65535:=by omega
          clear H1 H;go_wp2_with fail;go_roundw
          case rel=>exact⟨k+1,10*z+x-48,q,ps,ct,by omega,by go_num,by go_num,rfl,by omega,by omega,by omega,hps,gr,pM,br,zr,by show(if k+1≤n then _ else _);rw[ak (show k+1≤n by omega)];exact H2.o⟩
          case measure=>simp[intOf];omega
         ·have H2:Hid (bZ 0 c ((B).drop (k+1)) (65535) (q+1) ps ct=dR B c):=by show _=_;rw[←H1,show min (10*max z 0+x-48) 65535=65535 by omega]
          have nz0: -1≤65535:=by omega
          have Ri:65535≤65535:=by omega
          clear H1 H;go_wp2_with fail;go_roundw
          case rel=>exact⟨k+1,65535,q,ps,ct,by omega,by go_num,by go_num,rfl,by omega,by omega,by omega,hps,gr,pM,br,zr,by show(if k+1≤n then _ else _);rw[ak (show k+1≤n by omega)];exact H2.o⟩
          case measure=>simp[intOf];omega
    ·have hke:k=n+1:=by omega
     have ik:¬(k:Int)≤(n:Int):=by omega
     have H2:Hid ([4,0,0,c,ct]++ps=dR B c):=by have:=H.o;rw[ai hkn]at this;exact this
     clear H;go_wp2_with (first|(refine fA _ rfl (.tmp 5) rfl (w.heap.size+1) ([4,0,0,c,ct]++ps) rfl (by simp[hps]) 46 (0,0) gr ?_)|(refine b_ _ rfl (.tmp 4) (.tmp 85) rfl w.heap.size aO ([4,0,0,c,ct]++ps) rfl _ rfl rfl (by simp[hps]) 46 pM rfl ?_));intro v1 kU kI yV;have bv:Below w.heap.size w v1:=br.grown kI (by omega) (fun k e=>by simp at e;omega);have ER:v1.heap[w.heap.size]? =some (.cells (aA (dR B c)) 46 (0,0)):=by rw[←H2.o];exact kU
     go_wp2_with fail;exact bX (iF results117 _ _ w.heap.size (dR B c) (by rw[←H2.o];simp[hps]) 46 (0,0) rfl ER) rfl ⟨rfl,bv⟩
  ·have d0:60≤x0:=by omega
   have d1:¬x0≤63:=by omega
   clear hnm;go_enter func117,ntmps117;go_wp2_with (refine b_ _ rfl (.tmp 5) (.tmp 10) rfl (w.heap.size+1) aO ([4,0,0,c,1]++z16) rfl _ rfl rfl rfl 46 (uB w _ _).2 rfl ?_);intro u gE ru zu;have g4:=(ru.block w.heap.size (by simp;omega) (by simp)).trans (uB w _ _).1;have bl:Below w.heap.size w u:=(((dU _ _).alloc (bN _) _).alloc (by simp) _).grown ru (by simp;omega) (fun k e=>by simp at e;omega);have zz:w.heap.size+2≤u.heap.size:=by have:=ru.size;simp at this;omega
   clear ru;have QL:=(bl.cell hb0).trans hc0;go_wp2_with fail
   go_loopw [6,7,8] (fun v al i wr=>∃(k:Nat) (z:Int) (q:Nat) (ps:List Int) (ct:Int),k≤n+1∧i= .int .i64 k∧v= .int .i64 z∧al= .int .i64 ((q:Int)+1)∧ -1≤z∧z≤65535∧q≤k∧ps.length=16∧wr.heap[w.heap.size+1]? =some (.cells (aA ([4,0,0,c,ct]++ps)) 46 (0,0))∧wr.heap[w.heap.size]? =some (.cells (aA aO) 46 (0,0))∧Below w.heap.size w wr∧w.heap.size+2≤wr.heap.size∧
    Hid (if k≤n then bZ 0 c ((B).drop k) z (q+1) ps ct=dR B c else[4,0,0,c,ct]++ps=dR B c)) (fun _ _ i _=>n+1-(intOf i).toNat)
   case atStart=>exact⟨0,-1,0,z16,1,by omega,rfl,rfl,rfl,by omega,by omega,by omega,rfl,gE,g4,bl,zz,by show(if 0≤n then _ else _);rw[ak (dx _)];exact HR.o⟩
   case round=>
    obtain⟨k,z,q,ps,ct,hk,rfl,rfl,rfl,hz0,hz1,hqk,hps,gr,pM,br,zr,H⟩:=hrel;by_cases hkn:k≤n
    ·have H0:=H.o;rw[ak hkn]at H0;have ik:(k:Int)≤(n:Int):=by omega
     by_cases hke:k=n
     ·have hdr:(B).drop k=[]:=qB (by rw[UO];omega);rw[hdr]at H0;clear hdr;have Xu:((k:Int)==(n:Int))=true:=by simp;omega
      by_cases hq:q<16
      ·have H2:Hid ([4,0,0,c,((q:Int)+1)]++ps.set q z=dR B c):=by show _=_;rw[←H0];simp only[bZ];rw[ak (show q+1≤16 by omega)];rfl
       clear H0 H;have iq:(q:Int)+1≤16:=by omega
       have YO:(q:Int)<16:=by omega
       have es:([4,0,0,c,ct]++ps).set (5+q) z=[4,0,0,c,ct]++ps.set q z:=by rw[show 5+q=q+1+1+1+1+1 by omega];rfl
       go_wp2_with (refine iJ _ rfl (.tmp 55) (.tmp 53) rfl (w.heap.size+1) (5+q) ([4,0,0,c,ct]++ps) z (by simp[hps];omega) ?_ ?_ 46 gr ?_)
       ·rfl
       ·rfl
       intro u1 g1 r1 z1;have g1':u1.heap[w.heap.size+1]? =some (.cells (aA ([4,0,0,c,ct]++ps.set q z)) 46 (0,0)):=by rw[←es];exact g1
       have g41:=(r1.block w.heap.size (by omega) (by simp)).trans pM;have b1:Below w.heap.size w u1:=br.grown r1 (by omega) (fun k e=>by simp at e;omega);clear gr pM br r1 es;go_wp2_with (refine iJ _ rfl (.tmp 57) (.tmp 56) rfl (w.heap.size+1) 4 ([4,0,0,c,ct]++ps.set q z) ((q:Int)+1) (by simp) ?_ ?_ 46 g1' ?_)
       ·rfl
       ·rfl
       intro u2 g2 r2 z2;have g2':u2.heap[w.heap.size+1]? =some (.cells (aA ([4,0,0,c,((q:Int)+1)]++ps.set q z)) 46 (0,0)):=g2;have g42:=(r2.block w.heap.size (by omega) (by simp)).trans g41;have b2:Below w.heap.size w u2:=b1.grown r2 (by omega) (fun k e=>by simp at e;omega);clear g1 g1' g41 b1 r2 g2;go_wp2_with fail;go_roundw
       case rel=>exact⟨k+1,-1,q+1,ps.set q z,(q:Int)+1,by omega,by go_num,rfl,by go_num,by omega,by omega,by omega,by simp[hps],g2',g42,b2,by omega,by show(if k+1≤n then _ else _);rw[ai (show¬k+1≤n by omega)];exact H2.o⟩
       case measure=>simp[intOf];omega
      ·have H2:Hid ([4,0,0,c,ct]++ps=dR B c):=by show _=_;rw[←H0];simp only[bZ];rw[ai (show¬q+1≤16 by omega)]
       clear H0 H;have iq:¬(q:Int)+1≤16:=by omega
       go_wp2_with fail;go_roundw
       case rel=>exact⟨k+1,-1,q+1,ps,ct,by omega,by go_num,rfl,by go_num,by omega,by omega,by omega,by simp[hps],gr,pM,br,by omega,by show(if k+1≤n then _ else _);rw[ai (show¬k+1≤n by omega)];exact H2.o⟩
       case measure=>simp[intOf];omega
     ·have hkl:k<(B).length:=by rw[UO];omega
      have Xu:((k:Int)==(n:Int))=false:=by simp;omega
      have ikl:(k:Int)<(n:Int):=by omega
      obtain⟨x,hx⟩:∃x,(B)[k]=x:=⟨_,rfl⟩;have hdr:(B).drop k=x::(B).drop (k+1):=by rw[←hx];exact uH hkl
      have hxb:=hbx x (hx▸zW hkl);have V9:(B)[k]? =some x:=by rw[eG hkl,hx]
      obtain⟨bb,oo,hao,hblt,hcell⟩:=hsl k x V9;cases hao;have hcr:=(br.cell hblt).trans hcell;rw[hdr]at H0;clear hdr hx V9 hcell;by_cases h59:x=59
      ·subst h59;by_cases hq:q<16
       ·have H2:Hid (bZ 0 c ((B).drop (k+1)) (-1) (q+1+1) (ps.set q z) ((q:Int)+1)=dR B c):=by show _=_;rw[←H0];simp only[bZ];rw[ak True.intro];rw[ak (show q+1≤16 by omega)];rfl
        clear H0 H;have iq:(q:Int)+1≤16:=by omega
        have YO:(q:Int)<16:=by omega
        have es:([4,0,0,c,ct]++ps).set (5+q) z=[4,0,0,c,ct]++ps.set q z:=by rw[show 5+q=q+1+1+1+1+1 by omega];rfl
        go_wp2_with (refine iJ _ rfl (.tmp 55) (.tmp 53) rfl (w.heap.size+1) (5+q) ([4,0,0,c,ct]++ps) z (by simp[hps];omega) ?_ ?_ 46 gr ?_)
        ·rfl
        ·rfl
        intro u1 g1 r1 z1;have g1':u1.heap[w.heap.size+1]? =some (.cells (aA ([4,0,0,c,ct]++ps.set q z)) 46 (0,0)):=by rw[←es];exact g1
        have g41:=(r1.block w.heap.size (by omega) (by simp)).trans pM;have b1:Below w.heap.size w u1:=br.grown r1 (by omega) (fun k e=>by simp at e;omega);clear gr pM br r1 es;go_wp2_with (refine iJ _ rfl (.tmp 57) (.tmp 56) rfl (w.heap.size+1) 4 ([4,0,0,c,ct]++ps.set q z) ((q:Int)+1) (by simp) ?_ ?_ 46 g1' ?_)
        ·rfl
        ·rfl
        intro u2 g2 r2 z2;have g2':u2.heap[w.heap.size+1]? =some (.cells (aA ([4,0,0,c,((q:Int)+1)]++ps.set q z)) 46 (0,0)):=g2;have g42:=(r2.block w.heap.size (by omega) (by simp)).trans g41;have b2:Below w.heap.size w u2:=b1.grown r2 (by omega) (fun k e=>by simp at e;omega);clear g1 g1' g41 b1 r2 g2;go_wp2_with fail;go_roundw
        case rel=>exact⟨k+1,-1,q+1,ps.set q z,(q:Int)+1,by omega,by go_num,rfl,by go_num,by omega,by omega,by omega,by simp[hps],g2',g42,b2,by omega,by show(if k+1≤n then _ else _);rw[ak (show k+1≤n by omega)];exact H2.o⟩
        case measure=>simp[intOf];omega
       ·have H2:Hid (bZ 0 c ((B).drop (k+1)) (-1) (q+1+1) ps ct=dR B c):=by show _=_;rw[←H0];simp only[bZ];rw[ak True.intro];rw[ai (show¬q+1≤16 by omega)]
        clear H0 H;have iq:¬(q:Int)+1≤16:=by omega
        go_wp2_with fail;go_roundw
        case rel=>exact⟨k+1,-1,q+1,ps,ct,by omega,by go_num,rfl,by go_num,by omega,by omega,by omega,by simp[hps],gr,pM,br,by omega,by show(if k+1≤n then _ else _);rw[ak (show k+1≤n by omega)];exact H2.o⟩
        case measure=>simp[intOf];omega
      ·have b59:(x==59)=false:=by simp[h59]
       by_cases hbad:x<48∨57<x
       ·have H2:Hid (aO=dR B c):=by show _=_;rw[←H0];simp only[bZ];rw[ai h59,ak hbad]
        clear H0 H h59;rcases hbad with hbad|hbad
        ·go_wp2_with (refine b_ _ rfl (.tmp 4) (.tmp 72) rfl w.heap.size aO aO rfl _ rfl rfl rfl 46 pM rfl ?_);intro v1 kU kI yV;have bv:Below w.heap.size w v1:=br.grown kI (by omega) (fun k e=>by simp at e;omega);rw[H2.o]at kU;go_wp2_with fail;exact bX (iF results117 _ _ w.heap.size (dR B c) (H2.o▸rfl) 46 (0,0) rfl kU) rfl ⟨rfl,bv⟩
        ·have nb:¬x<48:=by omega
         go_wp2_with (refine b_ _ rfl (.tmp 4) (.tmp 72) rfl w.heap.size aO aO rfl _ rfl rfl rfl 46 pM rfl ?_);intro v1 kU kI yV;have bv:Below w.heap.size w v1:=br.grown kI (by omega) (fun k e=>by simp at e;omega);rw[H2.o]at kU;go_wp2_with fail;exact bX (iF results117 _ _ w.heap.size (dR B c) (H2.o▸rfl) 46 (0,0) rfl kU) rfl ⟨rfl,bv⟩
       ·have H1:bZ 0 c ((B).drop (k+1)) (min (10*max z 0+x-48) 65535) (q+1) ps ct=dR B c:=by rw[←H0];simp only[bZ];rw[ai h59,ai hbad]
        have nb:¬x<48:=by omega
        have nb2:¬57<x:=by omega
        clear H0 h59 hbad;rcases(show z<0∨z=0∨0<z by omega)with hzn|rfl|hzn
        ·have H1':Hid (bZ 0 c ((B).drop (k+1)) (x-48) (q+1) ps ct=dR B c):=by show _=_;rw[←H1,show min (10*max z 0+x-48) 65535=x-48 by omega]
         clear H1 H;have Ri:x-48≤65535:=by omega
         go_wp2_with fail;go_roundw
         case rel=>exact⟨k+1,x-48,q,ps,ct,by omega,by go_num,by go_num,rfl,by omega,by omega,by omega,hps,gr,pM,br,zr,by show(if k+1≤n then _ else _);rw[ak (show k+1≤n by omega)];exact H1'.o⟩
         case measure=>simp[intOf];omega
        ·have H1':Hid (bZ 0 c ((B).drop (k+1)) (x-48) (q+1) ps ct=dR B c):=by show _=_;rw[←H1,show min (10*max 0 0+x-48) 65535=x-48 by omega]
         clear H1 H;have Ri:x-48≤65535:=by omega
         go_wp2_with fail;go_roundw
         case rel=>exact⟨k+1,x-48,q,ps,ct,by omega,by go_num,by go_num,rfl,by omega,by omega,by omega,hps,gr,pM,br,zr,by show(if k+1≤n then _ else _);rw[ak (show k+1≤n by omega)];exact H1'.o⟩
         case measure=>simp[intOf];omega
        ·have nzn:¬z<0:=by omega
         by_cases hbig:10*z+x-48≤65535
         ·have H2:Hid (bZ 0 c ((B).drop (k+1)) (10*z+x-48) (q+1) ps ct=dR B c):=by show _=_;rw[←H1,show min (10*max z 0+x-48) 65535=10*z+x-48 by omega]
          have nz0: -1≤10*z+x-48:=by omega
          have Ri:10*z+x-48≤65535:=by omega
          clear H1 H;go_wp2_with fail;go_roundw
          case rel=>exact⟨k+1,10*z+x-48,q,ps,ct,by omega,by go_num,by go_num,rfl,by omega,by omega,by omega,hps,gr,pM,br,zr,by show(if k+1≤n then _ else _);rw[ak (show k+1≤n by omega)];exact H2.o⟩
          case measure=>simp[intOf];omega
         ·have H2:Hid (bZ 0 c ((B).drop (k+1)) (65535) (q+1) ps ct=dR B c):=by show _=_;rw[←H1,show min (10*max z 0+x-48) 65535=65535 by omega]
          have nz0: -1≤65535:=by omega
          have Ri:65535≤65535:=by omega
          clear H1 H;go_wp2_with fail;go_roundw
          case rel=>exact⟨k+1,65535,q,ps,ct,by omega,by go_num,by go_num,rfl,by omega,by omega,by omega,hps,gr,pM,br,zr,by show(if k+1≤n then _ else _);rw[ak (show k+1≤n by omega)];exact H2.o⟩
          case measure=>simp[intOf];omega
    ·have hke:k=n+1:=by omega
     have ik:¬(k:Int)≤(n:Int):=by omega
     have H2:Hid ([4,0,0,c,ct]++ps=dR B c):=by have:=H.o;rw[ai hkn]at this;exact this
     clear H;go_wp2_with (first|(refine fA _ rfl (.tmp 5) rfl (w.heap.size+1) ([4,0,0,c,ct]++ps) rfl (by simp[hps]) 46 (0,0) gr ?_)|(refine b_ _ rfl (.tmp 4) (.tmp 85) rfl w.heap.size aO ([4,0,0,c,ct]++ps) rfl _ rfl rfl (by simp[hps]) 46 pM rfl ?_));intro v1 kU kI yV;have bv:Below w.heap.size w v1:=br.grown kI (by omega) (fun k e=>by simp at e;omega);have ER:v1.heap[w.heap.size]? =some (.cells (aA (dR B c)) 46 (0,0)):=by rw[←H2.o];exact kU
     go_wp2_with fail;exact bX (iF results117 _ _ w.heap.size (dR B c) (by rw[←H2.o];simp[hps]) 46 (0,0) rfl ER) rfl ⟨rfl,bv⟩
end Go.Proofs.YtheibfffilomcaaGreatDoor
