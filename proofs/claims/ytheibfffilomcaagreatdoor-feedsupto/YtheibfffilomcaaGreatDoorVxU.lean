import Derived.Test.YtheibfffilomcaaGreatDoorTmaU
import Derived.Test.YtheibfffilomcaaGreatDoorVm0U
import Derived.Test.YtheibfffilomcaaGreatDoorVuU
set_option linter.all false
set_option maxRecDepth 100000
set_option maxHeartbeats 4000000
namespace Go.Proofs.YtheibfffilomcaaGreatDoor
open Go.RowKit Go.Proofs.Tryz
theorem Af(tb:Nat)(v0 v1:Value)(fed:ByteArray)(done:Nat)(d:DT)(a b:Nat)(w:World)(ht:bR w tb v0 v1 fed done d)(hok:d.Ok)(ha:a≤100000)(hb:b≤100000)(X:Int)(off:Nat)(vS:Value)(pS:di)(dS:cz)(hX:(X=0∧off=21∧vS=v0∧pS=d.t.v0∧dS=d.d0)∨(X=1∧off=34∧vS=v1∧pS=d.t.v1∧dS=d.d1))(hs:d.t.shown=X):Calls prog 200 #[.pointer (some ⟨tb,0,none⟩),.int .i64 (a:Int),.int .i64 (b:Int)] w fun e w'=>e= .returned (.tuple #[])∧∃v0' v1',bR w' tb v0' v1' fed done (d.cleared a b)∧Ch (· =tb) w w':=by
 obtain⟨E,hE⟩:∃E,E=d.cleared a b:=⟨_,rfl⟩;rw[←hE];have htl:=hok.tl;have hr2:d.t.rows≤12:=hok.inv.r2;have hc2:d.t.ah≤40:=hok.inv.c2;have hc1:1≤d.t.ah:=hok.inv.c1;have lS:dS.length=d.t.rows:=by rcases hX with⟨_,_,_,_,rfl⟩|⟨_,_,_,_,rfl⟩<;>first|exact hok.ls0|exact hok.ls1
 have okS:Aa d.ids d.t.ah dS:=by rcases hX with⟨_,_,_,_,rfl⟩|⟨_,_,_,_,rfl⟩<;>first|exact hok.r0|exact hok.r1
 have hN:0≤d.ids:=hok.I7;have H0:∀u,bR u tb v0 v1 fed done d→ShR u 0 vS dS:=fun u hu=>by rcases hX with⟨_,_,rfl,_,rfl⟩|⟨_,_,rfl,_,rfl⟩<;>first|exact hu.h0|exact hu.h1
 have HV1:Hid (vS.oneCell'=true):=by obtain⟨a',c',e',_⟩:=H0 _ ht;show _=_;rw[e'];rfl
 have HSg:∀u,bR u tb v0 v1 fed done d→u.cell? ⟨tb,20,none⟩=some (.int .i64 X):=fun u hu=>by rw[←hs];exact hu.tq
 have RGg:∀u,bR u tb v0 v1 fed done d→u.rangeAt tb off (aT vS pS):=fun u hu=>by rcases hX with⟨_,rfl,rfl,rfl,_⟩|⟨_,rfl,rfl,rfl,_⟩<;>first|exact hu.range 21 _ rfl|exact hu.range 34 _ rfl
 have HXO:Hid ((X=0∧off=21)∨(X=1∧off=34)):=hX.imp (fun h=>⟨h.1,h.2.1⟩) (fun h=>⟨h.1,h.2.1⟩);have HX:Hid _:=hX;have HE:Hid _:=hE;have HH0:Hid _:=H0;have HT0:bR ({w with drawn:=w.drawn+1}:World) tb v0 v1 fed done d:=ht.sm ((Ch.refl _ _).drewN 1);have HH:=HSg _ HT0;have HT:Hid _:=ht;have HS:Hid _:=hs;have adZ:Hid _:=okS;clear ht hok hs okS hX hE H0;go_enter func200,ntmps200;go_upto_region 0 with fail;go_cut [6] (fun s6 wc=>∃g,s6= .pointer (some ⟨g,0,none⟩)∧wc.heap[g]? =some (.cells (aT vS pS).toArray 87 (0,0))∧Sm w wc∧w.heap.size≤g)
 case first=>
  refine dX (S:=fun x=>x.cell? ⟨tb,20,none⟩=some (.int .i64 X)) aX ?_;refine ay 0 1 2 6 HH ?_;simp only[ag,af];refine ay 3 7 4 5 HH ?_;simp only[ag,af];refine aj 8 HH ?_ (v:=.pointer (some ⟨tb,off,none⟩)) (hy:=(Or.inl ⟨by rfl,by intro x gY;rcases HXO.o with⟨rfl,rfl⟩|⟨rfl,rfl⟩<;>go_simp<;>try (first|rfl|go_num)⟩));simp only[ag,af];refine lQ 9 10 ?_ ?_
  focus
   refine dI ?_;refine jl 19 (.tmp 18) rfl rfl tb off rfl (aT vS pS) rfl (RGg _ HT0) ?_;refine⟨HH,?_⟩
   try simp only[ag,af]
   refine av 10 ?_;refine Cg 6 rfl rfl ?_;have GA:(({w with drawn:=w.drawn+1}:World).alloc (.cells (aT (.slice none 0 0) aY).toArray 87)).heap[w.heap.size]? =some (.cells (aT (.slice none 0 0) aY).toArray 87 (0,0)):=bV _ _;have SA:Sm w (({w with drawn:=w.drawn+1}:World).alloc (.cells (aT (.slice none 0 0) aY).toArray 87)):=((Ch.refl _ _).drewN 1).alloc _;have TA:=HT.o.sm SA;have SSA:=HSg _ TA;refine⟨SSA,?_⟩
   try simp only[ag,af]
  rotate_left 1
  focus
   refine dI ?_;refine Cg 6 rfl rfl ?_;have GA:(({w with drawn:=w.drawn+1}:World).alloc (.cells (aT (.slice none 0 0) aY).toArray 87)).heap[w.heap.size]? =some (.cells (aT (.slice none 0 0) aY).toArray 87 (0,0)):=bV _ _;have SA:Sm w (({w with drawn:=w.drawn+1}:World).alloc (.cells (aT (.slice none 0 0) aY).toArray 87)):=((Ch.refl _ _).drewN 1).alloc _;have TA:=HT.o.sm SA;have SSA:=HSg _ TA;refine⟨SSA,?_⟩
   try simp only[ag,af]
   refine av 9 ?_;refine jl 19 (.tmp 18) rfl rfl tb off rfl (aT vS pS) rfl (RGg _ TA) ?_;refine⟨SSA,?_⟩
   try simp only[ag,af]
  rotate_left 1
  all_goals
   refine av 11 ?_;refine uo 87 (.tmp 6) (.tmp 19) rfl rfl w.heap.size _ (aT vS pS) rfl rfl 87 GA rfl jP (j5 HV1.o _) ?_;intro u2 g2 c2;have S2:Sm w u2:=SA.trans' c2 (fun k hk e=>by omega);have Tf:=HSg _ (HT.o.sm S2);refine⟨Tf,?_⟩
   try simp only[ag,af]
   refine aC ?_;go_wp2_with fail;go_meet;exact⟨w.heap.size,rfl,g2,S2,bN _⟩
 case rest=>
  clear HH HT0;obtain⟨g,rfl,gc,sc,hg⟩:=hcut;have Bw:tb<w.heap.size:=HT.o.lt;have HGC:Hid _:=gc;have Xe:Hid _:=sc;clear gc sc;go_wp2_with fail;go_loopw [7] (fun i wr=>∃k:Nat,k≤d.t.rows∧i= .int .i64 k∧∃v',wr.heap[g]? =some (.cells (aT v' pS).toArray 87 (0,0))∧ShR wr 0 v' (DT.fq dS a b d.t.ah k)∧Ch (· =g) wc wr) (fun i _=>d.t.rows-(intOf i).toNat)
  case atStart=>exact⟨0,dx _,rfl,vS,HGC.o,(HH0.o _ HT.o).sm Xe.o,Ch.refl _ _⟩
  case round=>
   obtain⟨k,hk,rfl,v',gr,sr,ch⟩:=hrel;have Ms:Hid _:=ch;have TR0:bR wr tb v0 v1 fed done d:=HT.o.sm (Xe.o.trans' ch (fun k hk e=>by omega));have yZ:Hid _:=TR0;have TZ:Hid _:=sr;have Je:Hid _:=gr;have c0:=TR0.qH;have c1:=TR0.gX;have vk:IntKind.i64.wrap ((k:Int)+1)=(k:Int)+1:=bD _ (by omega);clear ch TR0 sr gr HSg RGg;by_cases hlt:k<d.t.rows
   ·have ik:(k:Int)<(d.t.rows:Int):=by omega
    obtain⟨m,hm⟩:∃m,m=k*d.t.ah:=⟨_,rfl⟩;have hmb:m≤480:=by rw[hm];exact iD (Nat.mul_le_mul (by omega:k≤12) hc2) (by omega)
    have em:(k:Int)*(d.t.ah:Int)=(m:Int):=by rw[hm];push_cast;rfl
    have vm:IntKind.i64.wrap ((k:Int)*(d.t.ah:Int))=(m:Int):=by rw[em];exact bD _ (by omega)
    have va:IntKind.i64.wrap ((a:Int)-(m:Int))=(a:Int)-(m:Int):=bD _ (by omega);have vb:IntKind.i64.wrap ((b:Int)-(m:Int))=(b:Int)-(m:Int):=bD _ (by omega);obtain⟨cA,hcA⟩:∃cA,cA=DT.pK a d.t.ah k:=⟨_,rfl⟩;obtain⟨cB,hcB⟩:∃cB,cB=DT.pK b d.t.ah k:=⟨_,rfl⟩;have wA:DT.wi ((a:Int)-(m:Int)) 0 (d.t.ah:Int)=(cA:Int):=by rw[hcA];exact Sy _ _ _ _ hm
    have wB:DT.wi ((b:Int)-(m:Int)) 0 (d.t.ah:Int)=(cB:Int):=by rw[hcB];exact Sy _ _ _ _ hm
    have bA:cA≤d.t.ah:=by rw[hcA];unfold DT.pK;omega
    have bB:cB≤d.t.ah:=by rw[hcB];unfold DT.pK;omega
    have HcA:Hid _:=hcA;have HcB:Hid _:=hcB;have QA:=dh ((a:Int)-(m:Int)) 0 (d.t.ah:Int);have QB:=dh ((b:Int)-(m:Int)) 0 (d.t.ah:Int);rw[wA]at QA;rw[wB]at QB;have HQA:Hid _:=QA;have HQB:Hid _:=QB;clear em hm hcA hcB QA QB wA wB;have OJ:DT.fq dS a b d.t.ah (k+1)=if cA<cB then(DT.fq dS a b d.t.ah k).set k (over ((DT.fq dS a b d.t.ah k).getD k []) cA (List.replicate (cB-cA) aM))else DT.fq dS a b d.t.ah k:=by rw[HcA.o,HcB.o];rfl
    by_cases hab:cA<cB
    ·have iab:(cA:Int)<(cB:Int):=by omega
     rw[ak hab]at OJ;have Ty:Hid _:=OJ;clear OJ;go_wp2_with fail;go_quiet ((go_at_call 127;exact nH (HQA.o _)));have SU:Sm wr (wr.drewN nq):=(Ch.refl _ _).drewN _;have c1U:(wr.drewN nq).cell? ⟨tb,1,none⟩=some (.int .i64 (d.t.ah:Int)):=c1;have HSU:Hid _:=SU;clear SU;generalize hU:wr.drewN nq=U1 at*;clear hU;go_wp2_with fail;go_quiet ((go_at_call 127;exact nH (HQB.o _)));have SZ:Sm wr (U1.drewN nq):=HSU.o.drewN _;have VQ:Hid _:=SZ;clear SZ;generalize hZ:U1.drewN nq=Z at*;clear hZ;go_wp2_with fail;obtain⟨S',hS'⟩:∃S',S'=DT.fq dS a b d.t.ah k:=⟨_,rfl⟩;have lS':S'.length=d.t.rows:=by rw[hS',DT.iZ];exact lS
     obtain⟨q,hq⟩:∃q,S'[k]? =some q:=⟨_,eG (by omega)⟩;have hqD:S'.getD k []=q:=by simp[List.getD,hq]
     have lq:q.length=d.t.ah:=by have h9:=(DT.Aa.cleared hN adZ.o a b k (by omega)).getD (i:=k) (by rw[DT.iZ];omega);rw[←hS',hqD]at h9;exact h9.2
     have hcl:=Ty.o;have hsr:=TZ.o;rw[←hS',hqD]at hcl;rw[←hS']at hsr;have HNX:Hid (S'.set k (over q cA (List.replicate (cB-cA) aM))=DT.fq dS a b d.t.ah (k+1)):=hcl.symm;have Ze:ShR ({Z with drawn:=Z.drawn+1}:World) 0 v' S':=ShR.sm hsr (VQ.o.drewN 1);have SW0:Sm wr ({Z with drawn:=Z.drawn+1}:World):=VQ.o.drewN 1;have GZ:Z.heap[g]? =some (.cells (aT v' pS).toArray 87 (0,0)):=(VQ.o.block g (aK Je.o) id).trans Je.o;have aey:=Ze;obtain⟨a',cap',ev',V5,h3⟩:=aey;obtain⟨bb,oo,vq,ea,⟨_,cur,fr,Yz,_⟩,hbl,S0,RQ0⟩:=h3 k q hq;subst ea;subst ev';have G0:({Z with drawn:=Z.drawn+1}:World).heap[g]? =some (.cells (aT (.slice (some ⟨bb,oo,none⟩) S'.length cap') pS).toArray 87 (0,0)):=GZ;have hbg:bb≠g:=by rintro rfl;rw[G0]at Yz;cases Yz
     have ikS:(k:Int)<(S'.length:Int):=by omega
     have vBA:IntKind.i64.wrap ((cB:Int)-(cA:Int))=((cB-cA:Nat):Int):=by rw[show(cB:Int)-(cA:Int)=((cB-cA:Nat):Int) by omega];exact bD _ (by omega)
     clear hq hqD hcl hsr hS' h3 Yz GZ TZ Je VQ Ty;refine dX (S:=fun x=>x.cell? ⟨bb,oo+k,none⟩=some vq) aX ?_;refine ay 1 2 4 7 S0 ?_;simp only[ag,af];refine dW 8 9 S0 ?_;refine aj 10 S0 ?_ (v:=.int .i64 ((cB-cA:Nat):Int));simp only[ag,af];refine JS 0 3 11 ?_ ?_ ?_
     focus
      refine dI ?_;refine jl 57 (.tmp 6) rfl rfl g 0 rfl (aT (.slice (some ⟨bb,oo,none⟩) S'.length cap') pS) rfl (fK G0) ?_;refine⟨S0,?_⟩
      try simp only[ag,af]
      refine lQ 3 11 ?_ ?_
      focus
       refine dI ?_;refine nE 60 (.tmp 59) rfl rfl ⟨g,0,none⟩ (.slice (some ⟨bb,oo,none⟩) S'.length cap') rfl ((bG _ _ _ _ _ _ G0).trans rfl) ?_;refine⟨S0,?_⟩
       try simp only[ag,af]
       refine aj 5 S0 ?_ (v:=.pointer (some ⟨bb,oo+k,none⟩));refine aj 6 S0 ?_;simp only[ag,af];refine av 11 ?_;refine a_ (vs:=[.int .i64 ((cB-cA:Nat):Int)]) (iE (cB-cA) _ (by omega)) ?_;rintro Ej w1 ⟨O1,b1⟩;have sb1:Sm ({Z with drawn:=Z.drawn+1}:World) w1:=Ch.of_below b1;have G1:=(sb1.block g (aK G0) id).trans G0;have S1:=(dA (sb1.block bb (by omega) id)).trans S0;have ML:=dF.below RQ0 b1;have MM:=ShR.sm Ze sb1;have MN:=Ch.trans SW0 sb1;have z1:=b1.size;refine⟨S1,?_⟩
       try simp only[ag,af]
       refine av 12 ?_;refine a_ (vs:=[vq,.int .i64 (cA:Int),Ej]) (lX vq Ej q (List.replicate (cB-cA) aM) cA _ _ w1 ML (gL.rd O1) (by omega) (by rw[kJ];omega) (by omega)) ?_;rintro VD w2 ⟨O2,b2⟩;have uf:Sm w1 w2:=Ch.of_below b2;have G2:=(uf.block g (aK G1) id).trans G1;have S2:=(dA (uf.block bb (by omega) id)).trans S1;have Ul:=ShR.sm MM uf;have Un:=Ch.trans MN uf;have z2:=b2.size;refine⟨S2,?_⟩
       try simp only[ag,af]
      rotate_left 1
      focus
       refine dI ?_;refine a_ (vs:=[.int .i64 ((cB-cA:Nat):Int)]) (iE (cB-cA) _ (by omega)) ?_;rintro Ej w1 ⟨O1,b1⟩;have sb1:Sm ({Z with drawn:=Z.drawn+1}:World) w1:=Ch.of_below b1;have G1:=(sb1.block g (aK G0) id).trans G0;have S1:=(dA (sb1.block bb (by omega) id)).trans S0;have ML:=dF.below RQ0 b1;have MM:=ShR.sm Ze sb1;have MN:=Ch.trans SW0 sb1;have z1:=b1.size;refine⟨S1,?_⟩
       try simp only[ag,af]
       refine av 3 ?_;refine nE 60 (.tmp 59) rfl rfl ⟨g,0,none⟩ (.slice (some ⟨bb,oo,none⟩) S'.length cap') rfl ((bG _ _ _ _ _ _ G1).trans rfl) ?_;refine⟨S1,?_⟩
       try simp only[ag,af]
       refine aj 5 S1 ?_ (v:=.pointer (some ⟨bb,oo+k,none⟩));refine aj 6 S1 ?_;simp only[ag,af];refine av 12 ?_;refine a_ (vs:=[vq,.int .i64 (cA:Int),Ej]) (lX vq Ej q (List.replicate (cB-cA) aM) cA _ _ w1 ML (gL.rd O1) (by omega) (by rw[kJ];omega) (by omega)) ?_;rintro VD w2 ⟨O2,b2⟩;have uf:Sm w1 w2:=Ch.of_below b2;have G2:=(uf.block g (aK G1) id).trans G1;have S2:=(dA (uf.block bb (by omega) id)).trans S1;have Ul:=ShR.sm MM uf;have Un:=Ch.trans MN uf;have z2:=b2.size;refine⟨S2,?_⟩
       try simp only[ag,af]
      rotate_left 1
     rotate_left 2
     focus
      refine dI ?_;refine nE 60 (.tmp 59) rfl rfl ⟨g,0,none⟩ (.slice (some ⟨bb,oo,none⟩) S'.length cap') rfl ((bG _ _ _ _ _ _ G0).trans rfl) ?_;refine⟨S0,?_⟩
      try simp only[ag,af]
      refine aj 5 S0 ?_ (v:=.pointer (some ⟨bb,oo+k,none⟩));refine aj 6 S0 ?_;simp only[ag,af];refine lQ 0 11 ?_ ?_
      focus
       refine dI ?_;refine jl 57 (.tmp 6) rfl rfl g 0 rfl (aT (.slice (some ⟨bb,oo,none⟩) S'.length cap') pS) rfl (fK G0) ?_;refine⟨S0,?_⟩
       try simp only[ag,af]
       refine av 11 ?_;refine a_ (vs:=[.int .i64 ((cB-cA:Nat):Int)]) (iE (cB-cA) _ (by omega)) ?_;rintro Ej w1 ⟨O1,b1⟩;have sb1:Sm ({Z with drawn:=Z.drawn+1}:World) w1:=Ch.of_below b1;have G1:=(sb1.block g (aK G0) id).trans G0;have S1:=(dA (sb1.block bb (by omega) id)).trans S0;have ML:=dF.below RQ0 b1;have MM:=ShR.sm Ze sb1;have MN:=Ch.trans SW0 sb1;have z1:=b1.size;refine⟨S1,?_⟩
       try simp only[ag,af]
       refine av 12 ?_;refine a_ (vs:=[vq,.int .i64 (cA:Int),Ej]) (lX vq Ej q (List.replicate (cB-cA) aM) cA _ _ w1 ML (gL.rd O1) (by omega) (by rw[kJ];omega) (by omega)) ?_;rintro VD w2 ⟨O2,b2⟩;have uf:Sm w1 w2:=Ch.of_below b2;have G2:=(uf.block g (aK G1) id).trans G1;have S2:=(dA (uf.block bb (by omega) id)).trans S1;have Ul:=ShR.sm MM uf;have Un:=Ch.trans MN uf;have z2:=b2.size;refine⟨S2,?_⟩
       try simp only[ag,af]
      rotate_left 1
      focus
       refine dI ?_;refine a_ (vs:=[.int .i64 ((cB-cA:Nat):Int)]) (iE (cB-cA) _ (by omega)) ?_;rintro Ej w1 ⟨O1,b1⟩;have sb1:Sm ({Z with drawn:=Z.drawn+1}:World) w1:=Ch.of_below b1;have G1:=(sb1.block g (aK G0) id).trans G0;have S1:=(dA (sb1.block bb (by omega) id)).trans S0;have ML:=dF.below RQ0 b1;have MM:=ShR.sm Ze sb1;have MN:=Ch.trans SW0 sb1;have z1:=b1.size;refine⟨S1,?_⟩
       try simp only[ag,af]
       refine lQ 0 12 ?_ ?_
       focus
        refine dI ?_;refine jl 57 (.tmp 6) rfl rfl g 0 rfl (aT (.slice (some ⟨bb,oo,none⟩) S'.length cap') pS) rfl (fK G1) ?_;refine⟨S1,?_⟩
        try simp only[ag,af]
        refine av 12 ?_;refine a_ (vs:=[vq,.int .i64 (cA:Int),Ej]) (lX vq Ej q (List.replicate (cB-cA) aM) cA _ _ w1 ML (gL.rd O1) (by omega) (by rw[kJ];omega) (by omega)) ?_;rintro VD w2 ⟨O2,b2⟩;have uf:Sm w1 w2:=Ch.of_below b2;have G2:=(uf.block g (aK G1) id).trans G1;have S2:=(dA (uf.block bb (by omega) id)).trans S1;have Ul:=ShR.sm MM uf;have Un:=Ch.trans MN uf;have z2:=b2.size;refine⟨S2,?_⟩
        try simp only[ag,af]
       rotate_left 1
       focus
        refine dI ?_;refine a_ (vs:=[vq,.int .i64 (cA:Int),Ej]) (lX vq Ej q (List.replicate (cB-cA) aM) cA _ _ w1 ML (gL.rd O1) (by omega) (by rw[kJ];omega) (by omega)) ?_;rintro VD w2 ⟨O2,b2⟩;have uf:Sm w1 w2:=Ch.of_below b2;have G2:=(uf.block g (aK G1) id).trans G1;have S2:=(dA (uf.block bb (by omega) id)).trans S1;have Ul:=ShR.sm MM uf;have Un:=Ch.trans MN uf;have z2:=b2.size;refine⟨S2,?_⟩
        try simp only[ag,af]
        refine av 0 ?_;refine jl 57 (.tmp 6) rfl rfl g 0 rfl (aT (.slice (some ⟨bb,oo,none⟩) S'.length cap') pS) rfl (fK G2) ?_;refine⟨S2,?_⟩
        try simp only[ag,af]
       rotate_left 1
      rotate_left 2
     rotate_left 3
     focus
      refine dI ?_;refine a_ (vs:=[.int .i64 ((cB-cA:Nat):Int)]) (iE (cB-cA) _ (by omega)) ?_;rintro Ej w1 ⟨O1,b1⟩;have sb1:Sm ({Z with drawn:=Z.drawn+1}:World) w1:=Ch.of_below b1;have G1:=(sb1.block g (aK G0) id).trans G0;have S1:=(dA (sb1.block bb (by omega) id)).trans S0;have ML:=dF.below RQ0 b1;have MM:=ShR.sm Ze sb1;have MN:=Ch.trans SW0 sb1;have z1:=b1.size;refine⟨S1,?_⟩
      try simp only[ag,af]
      refine lQ 0 3 ?_ ?_
      focus
       refine dI ?_;refine jl 57 (.tmp 6) rfl rfl g 0 rfl (aT (.slice (some ⟨bb,oo,none⟩) S'.length cap') pS) rfl (fK G1) ?_;refine⟨S1,?_⟩
       try simp only[ag,af]
       refine av 3 ?_;refine nE 60 (.tmp 59) rfl rfl ⟨g,0,none⟩ (.slice (some ⟨bb,oo,none⟩) S'.length cap') rfl ((bG _ _ _ _ _ _ G1).trans rfl) ?_;refine⟨S1,?_⟩
       try simp only[ag,af]
       refine aj 5 S1 ?_ (v:=.pointer (some ⟨bb,oo+k,none⟩));refine aj 6 S1 ?_;simp only[ag,af];refine av 12 ?_;refine a_ (vs:=[vq,.int .i64 (cA:Int),Ej]) (lX vq Ej q (List.replicate (cB-cA) aM) cA _ _ w1 ML (gL.rd O1) (by omega) (by rw[kJ];omega) (by omega)) ?_;rintro VD w2 ⟨O2,b2⟩;have uf:Sm w1 w2:=Ch.of_below b2;have G2:=(uf.block g (aK G1) id).trans G1;have S2:=(dA (uf.block bb (by omega) id)).trans S1;have Ul:=ShR.sm MM uf;have Un:=Ch.trans MN uf;have z2:=b2.size;refine⟨S2,?_⟩
       try simp only[ag,af]
      rotate_left 1
      focus
       refine dI ?_;refine nE 60 (.tmp 59) rfl rfl ⟨g,0,none⟩ (.slice (some ⟨bb,oo,none⟩) S'.length cap') rfl ((bG _ _ _ _ _ _ G1).trans rfl) ?_;refine⟨S1,?_⟩
       try simp only[ag,af]
       refine aj 5 S1 ?_ (v:=.pointer (some ⟨bb,oo+k,none⟩));refine aj 6 S1 ?_;simp only[ag,af];refine lQ 0 12 ?_ ?_
       focus
        refine dI ?_;refine jl 57 (.tmp 6) rfl rfl g 0 rfl (aT (.slice (some ⟨bb,oo,none⟩) S'.length cap') pS) rfl (fK G1) ?_;refine⟨S1,?_⟩
        try simp only[ag,af]
        refine av 12 ?_;refine a_ (vs:=[vq,.int .i64 (cA:Int),Ej]) (lX vq Ej q (List.replicate (cB-cA) aM) cA _ _ w1 ML (gL.rd O1) (by omega) (by rw[kJ];omega) (by omega)) ?_;rintro VD w2 ⟨O2,b2⟩;have uf:Sm w1 w2:=Ch.of_below b2;have G2:=(uf.block g (aK G1) id).trans G1;have S2:=(dA (uf.block bb (by omega) id)).trans S1;have Ul:=ShR.sm MM uf;have Un:=Ch.trans MN uf;have z2:=b2.size;refine⟨S2,?_⟩
        try simp only[ag,af]
       rotate_left 1
       focus
        refine dI ?_;refine a_ (vs:=[vq,.int .i64 (cA:Int),Ej]) (lX vq Ej q (List.replicate (cB-cA) aM) cA _ _ w1 ML (gL.rd O1) (by omega) (by rw[kJ];omega) (by omega)) ?_;rintro VD w2 ⟨O2,b2⟩;have uf:Sm w1 w2:=Ch.of_below b2;have G2:=(uf.block g (aK G1) id).trans G1;have S2:=(dA (uf.block bb (by omega) id)).trans S1;have Ul:=ShR.sm MM uf;have Un:=Ch.trans MN uf;have z2:=b2.size;refine⟨S2,?_⟩
        try simp only[ag,af]
        refine av 0 ?_;refine jl 57 (.tmp 6) rfl rfl g 0 rfl (aT (.slice (some ⟨bb,oo,none⟩) S'.length cap') pS) rfl (fK G2) ?_;refine⟨S2,?_⟩
        try simp only[ag,af]
       rotate_left 1
      rotate_left 2
     rotate_left 3
     all_goals
      refine av 13 ?_;refine pJ (vs:=[.agg (aT (.slice (some ⟨bb,oo,none⟩) S'.length cap') pS).toArray,.int .i64 (k:Int),VD]) (Ce _ VD S' pS k _ 0 w2 Ul ((gL.rd O2).mono (dx _)) (by omega) (dx _)) ?_;rintro v3 w3 ⟨vn,rfl,SN,b3⟩;have sb3:Sm w2 w3:=Ch.of_below b3;have G3:=(sb3.block g (aK G2) id).trans G2;have S3:=(dA (sb3.block bb (by omega) id)).trans S2;have SW3:=Ch.trans Un sb3;have z3:=b3.size;refine⟨S3,?_⟩
      try simp only[ag,af]
      refine av 14 ?_;have hvn:vn.oneCell'=true:=by obtain⟨a',c',e',_⟩:=SN;rw[e'];rfl
      refine uo 87 (.tmp 6) (.tmp 70) rfl rfl g _ (aT vn pS) rfl rfl 87 G3 rfl jP (j5 hvn _) ?_;intro u4 g4 c4';have S4:=(dA (c4'.block bb (by omega) (by omega))).trans S3;have SN4:=SN.nk c4' (Off.one G3 (by decide) (by decide));have SW4:=(Sm.ch SW3).trans c4';refine⟨S4,?_⟩
      try simp only[ag,af]
      refine aC ?_;rw[HNX.o]at SN4;have HSN:Hid _:=SN4;have Co:Hid _:=g4;have T_:Hid _:=SW4;clear S4 SN4 g4 SW4 MM Ul SN O1 O2 ML MN Un SW3 G1 G2 G3 S1 S2 S3 b1 b2 b3 c4';go_wp2_with fail;go_roundw
      case rel=>exact⟨k+1,by omega,by go_num,vn,Co.o,HSN.o,Ms.o.trans T_.o⟩
      case measure=>simp[intOf];omega
    ·have iab:decide ((cA:Int)<(cB:Int))=false:=by simp;omega
     rw[ai hab]at OJ;have Ty:Hid _:=OJ;clear OJ;go_wp2_with fail;go_quiet ((go_at_call 127;exact nH (HQA.o _)));have SU:Sm wr (wr.drewN nq):=(Ch.refl _ _).drewN _;have c1U:(wr.drewN nq).cell? ⟨tb,1,none⟩=some (.int .i64 (d.t.ah:Int)):=c1;have HSU:Hid _:=SU;clear SU;generalize hU:wr.drewN nq=U1 at*;clear hU;go_wp2_with fail;go_quiet ((go_at_call 127;exact nH (HQB.o _)));have SZ:Sm wr (U1.drewN nq):=HSU.o.drewN _;have VQ:Hid _:=SZ;clear SZ;generalize hZ:U1.drewN nq=Z at*;clear hZ;go_wp2_with fail;go_roundw
     case rel=>exact⟨k+1,by omega,by go_num,v',(VQ.o.block g (aK Je.o) id).trans Je.o,by rw[Ty.o];exact ShR.sm TZ.o VQ.o,Ms.o.trans (Sm.ch VQ.o)⟩
     case measure=>simp[intOf];omega
   ·have ik:decide ((k:Int)<(d.t.rows:Int))=false:=by simp;omega
    obtain rfl:k=d.t.rows:=by omega
    have HV':Hid (v'.oneCell'=true):=by obtain⟨a',c',e',_⟩:=TZ.o;show _=_;rw[e'];rfl
    go_wp2_with fail;have TR:bR ({wr with drawn:=wr.drawn+1}:World) tb v0 v1 fed done d:=yZ.o.sm ((Ch.refl _ _).drewN 1);have SR0:ShR ({wr with drawn:=wr.drawn+1}:World) 0 v' (DT.fq dS a b d.t.ah d.t.rows):=ShR.sm TZ.o ((Ch.refl _ _).drewN 1);have GR:({wr with drawn:=wr.drawn+1}:World).heap[g]? =some (.cells (aT v' pS).toArray 87 (0,0)):=Je.o;have Zb:({wr with drawn:=wr.drawn+1}:World).cell? ⟨tb,20,none⟩=some (.int .i64 X)∧({wr with drawn:=wr.drawn+1}:World).rangeAt g 0 (aT v' pS):=⟨by rw[←HS.o];exact TR.tq,fK GR⟩;refine dX (S:=fun x=>x.cell? ⟨tb,20,none⟩=some (.int .i64 X)∧x.rangeAt g 0 (aT v' pS)) aX ?_;refine dW 0 1 Zb ?_;simp only[ag,af];refine aj 6 Zb ?_ (v:=.agg (aT v' pS).toArray) (hy:=(kz (by rfl) 87 (.tmp 6) rfl g 0 rfl (aT v' pS) _ (fun x h=>h.2) underlying87 rfl jP));refine dH 2 7 3 Zb ?_;simp only[ag,af];refine dH 8 4 5 Zb ?_;simp only[ag,af];refine aj 9 Zb ?_ (v:=.pointer (some ⟨tb,off,none⟩)) (hy:=(Or.inl ⟨by rfl,by intro x gY;rcases HXO.o with⟨rfl,rfl⟩|⟨rfl,rfl⟩<;>go_simp<;>try (first|rfl|go_num)⟩));simp only[ag,af];refine av 10 ?_;rcases HX.o with⟨rfl,rfl,rfl,rfl,rfl⟩|⟨rfl,rfl,rfl,rfl,rfl⟩
    all_goals
     first|(refine gN 87 (.tmp 80) (.tmp 77) rfl rfl (v0':=v') (v1':=v1) (kT:=fed) (done':=done) (d':={d with d0:=DT.fq d.d0 a b d.t.ah d.t.rows}) 21 (aT v' d.t.v0) jP rfl rfl (j5 HV'.o _) TR htl (by simp[aT,aB]) rfl SR0 TR.h1 ?_)|(refine gN 87 (.tmp 80) (.tmp 77) rfl rfl (v0':=v0) (v1':=v') (kT:=fed) (done':=done) (d':={d with d1:=DT.fq d.d1 a b d.t.ah d.t.rows}) 34 (aT v' d.t.v1) jP rfl rfl (j5 HV'.o _) TR htl (by simp[aT,aB]) rfl TR.h0 SR0 ?_)
     intro u2 t2 c2;have Tf:=And.intro (t2.tq.trans (congrArg (fun z=>some (Value.int .i64 z)) HS.o)) (fK ((c2.block g (aK GR) (by omega)).trans GR));refine⟨Tf,?_⟩
     try simp only[ag,af]
     refine aC ?_;have HT2:Hid _:=t2;have n_:Hid (Ch (· =tb) w u2):=((Xe.o.trans' Ms.o (fun k hk e=>by omega)).drewN 1 |> Sm.ch).trans c2;clear t2 c2 Tf TR SR0 GR Zb;go_wp2_with fail;go_end0;have hEE:=HE.o
     first|rw[Qc HS.o]at hEE|rw[Qd HS.o]at hEE
     subst hEE
     first|exact⟨rfl,_,_,HT2.o,n_.o⟩|exact⟨rfl,⟨_,_,HT2.o⟩,n_.o⟩
theorem EG(tb:Nat)(v0 v1:Value)(fed:ByteArray)(done:Nat)(d:DT)(a b:Nat)(w:World)(ht:bR w tb v0 v1 fed done d)(hok:d.Ok)(ha:a≤100000)(hb:b≤100000):Calls prog 200 #[.pointer (some ⟨tb,0,none⟩),.int .i64 (a:Int),.int .i64 (b:Int)] w fun e w'=>e= .returned (.tuple #[])∧∃v0' v1',bR w' tb v0' v1' fed done (d.cleared a b)∧Ch (· =tb) w w':=by
 have hsh:d.t.shown=0∨d.t.shown=1:=hok.inv.sh;rcases hsh with hs|hs
 ·exact Af tb v0 v1 fed done d a b w ht hok ha hb _ _ _ _ _ (.inl ⟨rfl,rfl,rfl,rfl,rfl⟩) hs
 ·exact Af tb v0 v1 fed done d a b w ht hok ha hb _ _ _ _ _ (.inr ⟨rfl,rfl,rfl,rfl,rfl⟩) hs
theorem Bl(tb:Nat)(v0 v1:Value)(fed:ByteArray)(done:Nat)(d:DT)(f how:Int)(w:World)(ht:bR w tb v0 v1 fed done d)(hok:d.Ok)(hf:f=74∨f=75):Calls prog 136 #[.pointer (some ⟨tb,0,none⟩),.int .i64 f,.int .i64 how] w fun e w'=>e= .returned (.tuple #[])∧∃v0' v1',bR w' tb v0' v1' fed done (d.erase f how)∧Ch (· =tb) w w':=by
 obtain⟨r,hr,hrr⟩:=hok.rw;obtain⟨c,hc,hcc⟩:=hok.cl;have hr2:d.t.rows≤12:=hok.inv.r2;have hc2:d.t.ah≤40:=hok.inv.c2;have c0:=ht.qH;have c1:=ht.gX;have c4:=ht.Dq;have c5:w.cell? ⟨tb,5,none⟩=some (.int .i64 d.t.col):=ht.oz;obtain⟨M,hM⟩:∃M,M=r*d.t.ah:=⟨_,rfl⟩;obtain⟨T,hT⟩:∃T,T=d.t.rows*d.t.ah:=⟨_,rfl⟩;have bM:M≤480:=by rw[hM];exact iD (Nat.mul_le_mul (by omega:r≤12) hc2) (by omega)
 have bT:T≤480:=by rw[hT];exact iD (Nat.mul_le_mul hr2 hc2) (by omega)
 have eM:d.t.row*(d.t.ah:Int)=(M:Int):=by rw[hr,hM];push_cast;rfl
 have eT:(d.t.rows:Int)*(d.t.ah:Int)=(T:Int):=by rw[hT];push_cast;rfl
 obtain⟨A,hA⟩:∃A,A=M+c:=⟨_,rfl⟩;obtain⟨L,hL⟩:∃L,L=M+d.t.ah:=⟨_,rfl⟩;obtain⟨A1,hA1⟩:∃A1,A1=A+1:=⟨_,rfl⟩;have vr:IntKind.i64.wrap (d.t.row*(d.t.ah:Int))=(M:Int):=by rw[eM];exact bD _ (by omega)
 have vt:IntKind.i64.wrap ((d.t.rows:Int)*(d.t.ah:Int))=(T:Int):=by rw[eT];exact bD _ (by omega)
 have va:IntKind.i64.wrap ((M:Int)+d.t.col)=(A:Int):=by rw[show(M:Int)+d.t.col=(A:Int) by omega];exact bD _ (by omega)
 have vl:IntKind.i64.wrap ((M:Int)+(d.t.ah:Int))=(L:Int):=by rw[show(M:Int)+(d.t.ah:Int)=(L:Int) by omega];exact bD _ (by omega)
 have v1':IntKind.i64.wrap ((A:Int)+1)=(A1:Int):=by rw[show(A:Int)+1=(A1:Int) by omega];exact bD _ (by omega)
 have hX:d.erase f how=if how=0 then d.cleared A (if f=75 then L else T)else if how=1 then d.cleared (if f=75 then M else 0) A1 else if how=2 then d.cleared (if f=75 then M else 0) (if f=75 then L else T)else d:=by unfold DT.erase;simp only[show d.t.row.toNat=r by omega,show d.t.col.toNat=c by omega, ←hM, ←hT, ←hA, ←hL, ←hA1]
 rw[hX];have CL:∀(a b:Nat) (u:World),a≤100000→b≤100000→bR u tb v0 v1 fed done d→Calls prog 200 #[.pointer (some ⟨tb,0,none⟩),.int .i64 (a:Int),.int .i64 (b:Int)] u fun e w'=>e= .returned (.tuple #[])∧∃v0' v1',bR w' tb v0' v1' fed done (d.cleared a b)∧Ch (· =tb) u w':=fun a b u ha hb hu=>EG tb v0 v1 fed done d a b u hu hok ha hb;have F7:Hid _:=CL;have bA:A≤100000:=by omega
 have bL:L≤100000:=by omega
 have bA1:A1≤100000:=by omega
 have HT:Hid _:=ht;clear ht hok CL hX eM eT hM hT hA hL hA1 hr hc;rcases hf with rfl|rfl
 ·rw[show(if(74:Int)=75 then L else T)=T from rfl,show(if(74:Int)=75 then M else 0)=0 from rfl];by_cases h0:how=0
  ·subst h0;rw[ak rfl];go_enter func136,ntmps136;go_wp2_with fail;go_quiet (fail);go_wp2_with fail;go_quiet (fail);go_wp2_with fail;refine(F7.o A T _ (by omega) (by omega) (HT.o.drewN _)).mono ?_;rintro e w2 ⟨rfl,x0,x1,t2,k2⟩;go_wp2_with fail;go_end0
   first|exact⟨rfl,x0,x1,t2,((Ch.refl _ _).drewN _).trans k2⟩|exact⟨rfl,⟨x0,x1,t2⟩,((Ch.refl _ _).drewN _).trans k2⟩
  have b0:(how==0)=false:=by simp[h0]
  by_cases h1:how=1
  ·subst h1;simp only[show¬((1:Int)=0) by decide,ou,if_true];go_enter func136,ntmps136;go_wp2_with fail;go_quiet (fail);go_wp2_with fail;go_quiet (fail);go_wp2_with fail;refine(F7.o 0 A1 _ (by omega) (by omega) (HT.o.drewN _)).mono ?_;rintro e w2 ⟨rfl,x0,x1,t2,k2⟩;go_wp2_with fail;go_end0
   first|exact⟨rfl,x0,x1,t2,((Ch.refl _ _).drewN _).trans k2⟩|exact⟨rfl,⟨x0,x1,t2⟩,((Ch.refl _ _).drewN _).trans k2⟩
  have b1:(how==1)=false:=by simp[h1]
  by_cases h2:how=2
  ·subst h2;simp only[show¬((2:Int)=0) by decide,ou,show¬((2:Int)=1) by decide,if_true];go_enter func136,ntmps136;go_wp2_with fail;go_quiet (fail);go_wp2_with fail;go_quiet (fail);go_wp2_with fail;refine(F7.o 0 T _ (by omega) (by omega) (HT.o.drewN _)).mono ?_;rintro e w2 ⟨rfl,x0,x1,t2,k2⟩;go_wp2_with fail;go_end0
   first|exact⟨rfl,x0,x1,t2,((Ch.refl _ _).drewN _).trans k2⟩|exact⟨rfl,⟨x0,x1,t2⟩,((Ch.refl _ _).drewN _).trans k2⟩
  have b2:(how==2)=false:=by simp[h2]
  rw[ai h0,ai h1,ai h2];go_enter func136,ntmps136;go_wp2_with fail;go_quiet (fail);go_wp2_with fail;go_quiet (fail);go_wp2_with fail;go_end0
  first|exact⟨rfl,v0,v1,HT.o.drewN _,(Ch.refl _ _).drewN _⟩|exact⟨rfl,⟨v0,v1,HT.o.drewN _⟩,(Ch.refl _ _).drewN _⟩
 ·rw[show(if(75:Int)=75 then L else T)=L from rfl,show(if(75:Int)=75 then M else 0)=M from rfl];by_cases h0:how=0
  ·subst h0;rw[ak rfl];go_enter func136,ntmps136;go_wp2_with fail;go_quiet (fail);go_wp2_with fail;go_quiet (fail);go_wp2_with fail;go_quiet (fail);go_wp2_with fail;refine(F7.o A L _ (by omega) (by omega) (HT.o.drewN _)).mono ?_;rintro e w2 ⟨rfl,x0,x1,t2,k2⟩;go_wp2_with fail;go_end0
   first|exact⟨rfl,x0,x1,t2,((Ch.refl _ _).drewN _).trans k2⟩|exact⟨rfl,⟨x0,x1,t2⟩,((Ch.refl _ _).drewN _).trans k2⟩
  have b0:(how==0)=false:=by simp[h0]
  by_cases h1:how=1
  ·subst h1;simp only[show¬((1:Int)=0) by decide,ou,if_true];go_enter func136,ntmps136;go_wp2_with fail;go_quiet (fail);go_wp2_with fail;go_quiet (fail);go_wp2_with fail;go_quiet (fail);go_wp2_with fail;refine(F7.o M A1 _ (by omega) (by omega) (HT.o.drewN _)).mono ?_;rintro e w2 ⟨rfl,x0,x1,t2,k2⟩;go_wp2_with fail;go_end0
   first|exact⟨rfl,x0,x1,t2,((Ch.refl _ _).drewN _).trans k2⟩|exact⟨rfl,⟨x0,x1,t2⟩,((Ch.refl _ _).drewN _).trans k2⟩
  have b1:(how==1)=false:=by simp[h1]
  by_cases h2:how=2
  ·subst h2;simp only[show¬((2:Int)=0) by decide,ou,show¬((2:Int)=1) by decide,if_true];go_enter func136,ntmps136;go_wp2_with fail;go_quiet (fail);go_wp2_with fail;go_quiet (fail);go_wp2_with fail;go_quiet (fail);go_wp2_with fail;refine(F7.o M L _ (by omega) (by omega) (HT.o.drewN _)).mono ?_;rintro e w2 ⟨rfl,x0,x1,t2,k2⟩;go_wp2_with fail;go_end0
   first|exact⟨rfl,x0,x1,t2,((Ch.refl _ _).drewN _).trans k2⟩|exact⟨rfl,⟨x0,x1,t2⟩,((Ch.refl _ _).drewN _).trans k2⟩
  have b2:(how==2)=false:=by simp[h2]
  rw[ai h0,ai h1,ai h2];go_enter func136,ntmps136;go_wp2_with fail;go_quiet (fail);go_wp2_with fail;go_quiet (fail);go_wp2_with fail;go_quiet (fail);go_wp2_with fail;go_end0
  first|exact⟨rfl,v0,v1,HT.o.drewN _,(Ch.refl _ _).drewN _⟩|exact⟨rfl,⟨v0,v1,HT.o.drewN _⟩,(Ch.refl _ _).drewN _⟩
theorem rC{ps:List Int}(hb:∀i,ps.getD i 0≤70000)(ct i:Nat)(o:Int)(h0:0≤o)(h1:o≤70000):o≤DT.qO ps ct i o∧DT.qO ps ct i o≤70000:=by have:=hb i;unfold DT.qO;split<;>omega
theorem J9{d:DT}{f n m:Int}(h:DT.qZ f=false):d.moves f n m=d:=by simp only[DT.qZ,decide_eq_false_iff_not]at h;unfold DT.moves;rw[ai (by omega),ai (by omega),ai (by omega),ai (by omega),ai (by omega),ai (by omega),ai (by omega)]
end Go.Proofs.YtheibfffilomcaaGreatDoor
