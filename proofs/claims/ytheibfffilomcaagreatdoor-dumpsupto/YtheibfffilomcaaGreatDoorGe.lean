import Derived.Test.YtheibfffilomcaaGreatDoorTmaU
import Derived.Test.YtheibfffilomcaaGreatDoorGd
set_option linter.all false
set_option maxRecDepth 100000
set_option maxHeartbeats 8000000
namespace Go.Proofs.YtheibfffilomcaaGreatDoor
open Go.RowKit Go.Proofs.Tryz
theorem Fb(r c:Int):([27,91]++(lY r c++[72])).length≤10:=by
 have d:∀n:Int,(jB n).length≤2:=fun n=>by unfold jB;split<;>simp
 have d1:=d (r+1);have d2:=d (c+1);unfold lY;simp only[fU,fE,eP];omega
theorem Ir{y:World}{g:Nat}{p:di}(h:y.heap[g]? =some (.cells (aB p).toArray 82 (0,0))):y.rangeAt g 3 (dG p.pen):=fun i v hv=>by rw[bG _ _ _ _ _ _ h];have hi:i<5:=(gJ.1 hv).1;rcases(show i=0∨i=1∨i=2∨i=3∨i=4 by omega)with rfl|rfl|rfl|rfl|rfl<;>exact hv
def jY (R:List aI):Nat:=if(R.getD (R.length-1) aD).part=2 then R.length-2 else R.length-1
def u_ (q:fO) (R:List aI) (p:di) (row:Int):List Int:=if p.waits then[27,91]++(lY row (jY R)++[72])++(wG q (R.getD (jY R) aD).p++oP (R.getD (jY R) aD).r)else[27,91]++(lY row p.col++[72])
def w_ (q:fO) (R:List aI) (p:di):fO:=if p.waits then(R.getD (jY R) aD).p else q
def o5 (q:fO) (R:List aI) (p:di) (top:Int):List Int:=(if p.origin then[27,91,63,54,104]else[])++u_ q R p (if p.origin then p.row-top else p.row)++wG (w_ q R p) p.pen++(if p.first=1 then[27,40,48]else[])++(if p.second=1 then[27,41,48]else[])++(if p.use=1 then[14]else[])
theorem Iy(v:Value)(S:cz)(p0 p:di)(top:Int)(q:fO)(w:World)(hS:ShR w 0 v S)(pr:Nat)(r:bY)(hpr:p.row=(pr:Int))(ET:S[pr]? =some r)(h12:S.length≤12)(hrl:1≤r.length∧r.length≤40)(QO:0≤p.col∧p.col<40)(htop:0≤top∧top≤12)(hto:p.origin=true→top≤p.row)(Nk:p.pen.Ok)(hl2:((strip r).getD (r.length-1) aD).part=2→2≤r.length)(hlo:((strip r).getD (jY (strip r)) aD).Ok):Calls prog 68 #[.agg (aT v p0).toArray,.agg (aB p).toArray,.int .i64 top,.agg (aW q)] w fun e w'=>∃s:ByteArray,e= .returned (.string s)∧bl s=o5 q (strip r) p top∧Sm w w':=by
 have aja:pr<S.length:=(gJ.1 ET).1;obtain⟨a,cap,ev,hcap,_⟩:=id hS;subst ev;have nK:Hid ((((w.alloc (.cells (aT (.slice a S.length cap) p0).toArray 87)).alloc (.cells (aB p).toArray 82)).alloc (.cells (aW q) 80)).heap[w.heap.size]? =some (.cells (aT (.slice a S.length cap) p0).toArray 87 (0,0))):=((gK _ _ _ (by simp;omega)).trans (gK _ _ _ (by simp))).trans (bV _ _);have nZ:Hid ((((w.alloc (.cells (aT (.slice a S.length cap) p0).toArray 87)).alloc (.cells (aB p).toArray 82)).alloc (.cells (aW q) 80)).heap[w.heap.size+1]? =some (.cells (aB p).toArray 82 (0,0))):=(gK _ _ _ (by simp)).trans (gG w _ _);have HG2:Hid ((((w.alloc (.cells (aT (.slice a S.length cap) p0).toArray 87)).alloc (.cells (aB p).toArray 82)).alloc (.cells (aW q) 80)).heap[w.heap.size+2]? =some (.cells (aW q) 80 (0,0))):=by have h9:=gG (w.alloc (.cells (aT (.slice a S.length cap) p0).toArray 87)) (.cells (aB p).toArray 82) (.cells (aW q) 80);rw[show(w.alloc (.cells (aT (.slice a S.length cap) p0).toArray 87)).heap.size+1=w.heap.size+2 by simp]at h9;exact h9
 have oG:Hid (Sm w (((w.alloc (.cells (aT (.slice a S.length cap) p0).toArray 87)).alloc (.cells (aB p).toArray 82)).alloc (.cells (aW q) 80))):=(((Ch.refl _ _).alloc _).alloc _).alloc _;have hS0:ShR (((w.alloc (.cells (aT (.slice a S.length cap) p0).toArray 87)).alloc (.cells (aB p).toArray 82)).alloc (.cells (aW q) 80)) 0 (.slice a S.length cap) S:=hS.nk oG.o (fun k h=>h.elim);have MB:Hid (Off (((w.alloc (.cells (aT (.slice a S.length cap) p0).toArray 87)).alloc (.cells (aB p).toArray 82)).alloc (.cells (aW q) 80)) (· =w.heap.size+2)):=Off.one HG2.o (by decide) (by decide);obtain⟨W,hW⟩:∃W,W=(((w.alloc (.cells (aT (.slice a S.length cap) p0).toArray 87)).alloc (.cells (aB p).toArray 82)).alloc (.cells (aW q) 80)):=⟨_,rfl⟩;have HW:Hid _:=hW;rw[←hW]at nK nZ HG2 oG hS0 MB;obtain⟨a',cap',ea,_,h3⟩:=hS0;cases ea;obtain⟨b,ob,vr,rfl,hBb,hbl,hcell,RR⟩:=h3 pr r ET;obtain⟨ar,Ez,rfl,abV,h4⟩:=RR;have hWs:w.heap.size+3≤W.heap.size:=by have:=aK HG2.o;omega
 have H4:Hid _:=h4;have c0:W.cell? ⟨w.heap.size,0,none⟩=some (.slice (some ⟨b,ob,none⟩) S.length cap):=(bG _ _ _ _ _ _ nK.o).trans rfl;have c1:W.cell? ⟨b,ob+pr,none⟩=some (.slice ar r.length Ez):=hcell;have s0:W.cell? ⟨w.heap.size+1,0,none⟩=some (.int .i64 (pr:Int)):=by rw[←hpr];exact(bG _ _ _ _ _ _ nZ.o).trans rfl
 have sx1:W.cell? ⟨w.heap.size+1,1,none⟩=some (.int .i64 p.col):=(bG _ _ _ _ _ _ nZ.o).trans rfl;have s2:W.cell? ⟨w.heap.size+1,2,none⟩=some (.bool p.waits):=(bG _ _ _ _ _ _ nZ.o).trans rfl;have s11:W.cell? ⟨w.heap.size+1,11,none⟩=some (.bool p.origin):=(bG _ _ _ _ _ _ nZ.o).trans rfl;have ii:(pr:Int)<(S.length:Int):=by omega
 have ahP:Hid (Ch (· =w.heap.size+2) W W):=Ch.refl _ _;obtain⟨rr,hrr⟩:∃rr:Nat,(if p.origin then p.row-top else p.row)=(rr:Int):=by
  cases ho:p.origin with
  |true=>have:=hto ho;exact⟨(p.row-top).toNat,by simp;omega⟩
  |false=>exact⟨pr,by simp[hpr]⟩
 have ahq:rr<90:=by
  have:(if p.origin then p.row-top else p.row)≤12:=by split<;>omega
  omega
 have HRR:Hid _:=hrr;have HPR:Hid _:=hpr;clear hW h3 h4 hBb hbl hcell hS ET hrr;go_enter func68,ntmps68;go_upto_region 1 with fail;rw[←HW.o];go_upto_if 17 with fail;go_cut [9,10] from 14 to 20 (fun s9 s10 wc=>∃s:ByteArray,s9= .string s∧bl s=(if p.origin then[27,91,63,54,104]else[])∧s.size≤5∧s10= .int .i64 (rr:Int)∧wc=W)
 case first=>
  have h9:=HRR.o;cases ho:p.origin with
  |true=>
   rw[ak ho]at h9;have vr:IntKind.i64.wrap ((pr:Int)-top)=(rr:Int):=by rw[←HPR.o,h9];exact bD _ (by omega)
   have HO:Hid _:=ho;rw[ho]at s11;clear ho h9;go_wp2_with fail;go_meet;exact⟨_,rfl,by rw[ak HO.o];kernel_rfl,by decide,rfl,rfl⟩
  |false=>rw[ai (by rw[ho];decide),HPR.o]at h9;have HO:Hid _:=ho;have H9:Hid _:=h9;rw[ho]at s11;clear ho h9;go_wp2_with fail;go_meet;exact⟨_,rfl,by rw[ai (by rw[HO.o];decide)];rfl,by decide,by rw[H9.o],rfl⟩
 case rest=>
  generalize hwc:wc=wc1 at*;clear hwc wc;obtain⟨s1,rfl,hb1,z1,rfl,hw1⟩:=hcut;have ae_:=hw1.symm;subst ae_;have HB1:Hid _:=hb1;clear hb1 hw1 s11;obtain⟨cl,hcl⟩:∃cl,r[r.length-1]? =some cl:=⟨_,eG (by omega)⟩;have Yq:(strip r).getD (r.length-1) aD=cl.1:=by unfold strip;simp[List.getD,hcl]
  obtain⟨br,FV,rfl,hBr,Ni,ab9⟩:=H4.o (r.length-1) cl hcl;have hne2:br≠w.heap.size+2:=by rintro rfl;obtain⟨_,cur,fr,mF,_⟩:=hBr;exact(MB.o _ rfl cur _ fr mF).1 rfl
  have Wt:Hid _:=Ni;have c6:W.cell? ⟨br,FV+(r.length-1)*8+6,none⟩=some (.int .i64 cl.1.part):=ab9 6 _ rfl;have vl:IntKind.i64.wrap ((r.length:Int)-1)=((r.length-1:Nat):Int):=by rw[show(r.length:Int)-1=((r.length-1:Nat):Int) by omega];exact bD _ (by omega)
  have il:((r.length-1:Nat):Int)<(r.length:Int):=by omega
  rw[Yq]at hl2;obtain⟨la,hla⟩:∃la,jY (strip r)=la:=⟨_,rfl⟩;have Yu:la=if cl.1.part=2 then r.length-2 else r.length-1:=by rw[←hla];unfold jY;rw[aU,Yq]
  rw[hla]at hlo;have HLA:Hid _:=hla;have TK:Hid _:=Yu;have ae2:la<r.length:=by rw[Yu];split<;>omega
  clear hla Yu hBr Ni ab9 Yq hcl;go_upto_if 36 with fail;go_cut [12] from 30 to 38 (fun s12 wc=>s12= .int .i64 (la:Int)∧wc=W)
  case first=>
   by_cases hp2:cl.1.part=2
   ·have h2:=hl2 hp2;have Zl:=TK.o;rw[ak hp2]at Zl;have vl2:IntKind.i64.wrap (((r.length-1:Nat):Int)-1)=(la:Int):=by rw[show((r.length-1:Nat):Int)-1=(la:Int) by omega];exact bD _ (by omega)
    have bp:(cl.1.part==2)=true:=by simp[hp2]
    clear hp2 hl2 TK Zl;go_wp2_with fail;go_meet;exact⟨rfl,rfl⟩
   ·have bp:(cl.1.part==2)=false:=by simp[hp2]
    have Zl:=TK.o;rw[ai hp2]at Zl;have HL9:Hid _:=Zl;clear hp2 hl2 TK Zl;go_wp2_with fail;go_meet;exact⟨by rw[HL9.o],rfl⟩
  case rest=>
   generalize hwc:wc=OB at*;clear hwc wc;obtain⟨rfl,hw2⟩:=hcut;have YA:=hw2.symm;subst YA;clear hw2 c6 il vl hl2;obtain⟨c,hck⟩:∃c,r[la]? =some c:=⟨_,eG ae2⟩;have hcs:(strip r).getD la aD=c.1:=by unfold strip;simp[List.getD,hck]
   rw[hcs]at hlo;have QV:=hlo.2;have QW:=hlo.1;obtain⟨br',afW,ear,_,_,ab8⟩:=H4.o la c hck;cases ear;have uF:Hid (W.rangeAt br (FV+la*8) (cellV c.1)):=xG ab8;have ila:(la:Int)<(r.length:Int):=by omega
   obtain⟨pc,hpc⟩:∃pc:Nat,p.col=(pc:Int):=⟨p.col.toNat,by omega⟩;rw[hpc]at sx1;have HPC:Hid _:=hpc;have aho:pc<90:=by omega
   have Wz:Hid _:=hcs;clear ab8 hck hcs hlo hpc QO;go_upto_if 40 with fail;go_cut [9,13] from 39 to 67 (fun s9 s13 wc=>∃s:ByteArray,s9= .string s∧bl s=(if p.origin then[27,91,63,54,104]else[])++u_ q (strip r) p (if p.origin then p.row-top else p.row)∧s.size≤60∧wc.heap[w.heap.size+2]? =some (.cells (aW (w_ q (strip r) p)) 80 (0,0))∧Ch (· =w.heap.size+2) W wc)
   case first=>
    cases hwt:p.waits with
    |true=>
     have HL2:Hid (u_ q (strip r) p (if p.origin then p.row-top else p.row)=[27,91]++(lY rr la++[72])++(wG q c.1.p++oP c.1.r)):=by show _=_;unfold u_;rw[ak hwt,HLA.o,Wz.o,HRR.o]
     have HQ2:Hid (w_ q (strip r) p=c.1.p):=by show _=_;unfold w_;rw[ak hwt,HLA.o,Wz.o]
     rw[hwt]at s2;clear hwt;go_wp2_with (first|(refine nN rfl 101 (.tmp 44) rfl br (FV+la*8) rfl (cellV c.1) _ uF.o underlying101 rfl g_ ?_)|(refine bK _ rfl 101 (.tmp 13) (.tmp 45) rfl W.heap.size (cellV nG) (cellV c.1) rfl _ rfl rfl 101 (bV _ _) rfl g_ (jW _) ?_));intro u8 g8 k8 z8;have Ww:Hid (Ch (· =w.heap.size+2) W u8):=((Ch.refl _ _).alloc _).trans' k8 (fun j hj e=>by omega);have Mt:Hid (u8.heap[w.heap.size+1+1]? =some (.cells (aW q) 80 (0,0))):=((k8.block _ (by simp;omega) (by omega)).trans (gK _ _ _ (by omega))).trans HG2.o;obtain⟨g9,V6⟩:∃g,g=W.heap.size:=⟨_,rfl⟩;rw[←V6]at g8;have SX:Hid _:=g8;have h98:w.heap.size+2<g9:=by omega
     rw[←V6];clear g8 k8 z8 V6;go_wp2_with fail;have S0:({u8 with drawn:=u8.drawn+1}:World).heap[w.heap.size+1+1]? =some (.cells (aW q) 80 (0,0))∧({u8 with drawn:=u8.drawn+1}:World).heap[g9]? =some (.cells (dw c.1) 101 (0,0)):=⟨Mt.o,SX.o⟩;have KS:∀y,Sm ({u8 with drawn:=u8.drawn+1}:World) y→y.heap[w.heap.size+1+1]? =some (.cells (aW q) 80 (0,0))∧y.heap[g9]? =some (.cells (dw c.1) 101 (0,0)):=fun y h=>⟨(h.block _ (aK Mt.o) id).trans Mt.o,(h.block _ (aK SX.o) id).trans SX.o⟩;refine dX (S:=fun y=>y.heap[w.heap.size+1+1]? =some (.cells (aW q) 80 (0,0))∧y.heap[g9]? =some (.cells (dw c.1) 101 (0,0))) aX ?_;refine dH 0 1 2 S0 ?_;simp only[ag,af];refine aj 5 S0 ?_ (v:=.agg (aW q)) (hy:=(kz (by rfl) 80 (.tmp 7) rfl (w.heap.size+1+1) 0 rfl (dG q) _ (fun y h=>fK h.1) underlying80 rfl eH));refine aj 6 S0 ?_ (v:=.pointer (some ⟨g9,1,none⟩));refine aj 10 S0 ?_;simp only[ag,af];refine aj 7 S0 ?_ (v:=.agg (aW c.1.p)) (hy:=(kz (by rfl) 80 (.tmp 52) rfl g9 1 rfl (dG c.1.p) _ (fun y h=>vU h.2) underlying80 rfl eH));simp only[ag,af];refine aj 11 S0 ?_ (v:=.int .i64 c.1.r) (hy:=Or.inl ⟨by rfl,by intro x gY;have UQ:World.cell? x ⟨g9,0,none⟩=some (.int .i64 c.1.r):=(bG _ _ _ _ _ _ gY.2).trans rfl;go_simp;try (first|rfl|go_num)⟩);simp only[ag,af];refine av 3 ?_;refine pJ (vs:=[.int .i64 (rr:Int),.int .i64 (la:Int)]) (zC rr la (by omega) (by omega) _) ?_;rintro v49 wA ⟨sa,rfl,hsa,sA⟩;have SA:=KS _ sA;have za:sa.size≤10:=by rw[←cZ,hsa];exact Fb _ _
     refine⟨SA,?_⟩
     try simp only[ag,af]
     refine aj 4 SA ?_ (v:=.string (s1++sa));simp only[ag,af];refine av 8 ?_;refine pJ (vs:=[.agg (aW q),.agg (aW c.1.p)]) (uT q c.1.p QV _) ?_;rintro v54 wB ⟨sp,rfl,hsp,sB⟩;have SB:=KS _ (sA.trans sB);have zp:sp.size≤20:=by rw[←cZ,hsp];exact BG _ _ QV
     refine⟨SB,?_⟩
     try simp only[ag,af]
     refine aj 9 SB ?_ (v:=.string (s1++sa++sp));simp only[ag,af];refine av 12 ?_;refine pJ (vs:=[.int .i64 c.1.r]) (Mq c.1.r QW _) ?_;rintro v58 wC ⟨su,rfl,hsu,sC⟩;have SC:=KS _ ((sA.trans sB).trans sC);have zu:su.size≤4:=by rw[←cZ,hsu];unfold oP;(repeat' split)<;>simp
     refine⟨SC,?_⟩
     try simp only[ag,af]
     refine aj 13 SC ?_ (v:=.string (s1++sa++sp++su));refine aj 14 SC ?_;simp only[ag,af];refine aC ?_;have Wx:Hid (Ch (· =w.heap.size+2) W wC):=(Ww.o.drewN 1).trans (Sm.ch ((sA.trans sB).trans sC));have adM:Hid _:=SC.1;have WI:Hid _:=SC.2;have WV:Hid _:=hsa;have W_:Hid _:=hsp;have Xb:Hid _:=hsu;clear S0 SA SB SC KS sA sB sC hsa hsp hsu;go_wp2_with (first|(refine nN rfl 80 (.tmp 60) rfl g9 1 rfl (dG c.1.p) _ (vU WI.o) underlying80 rfl eH ?_)|(refine bK _ rfl 80 (.tmp 7) (.tmp 61) rfl (w.heap.size+1+1) (dG q) (dG c.1.p) rfl _ rfl rfl 80 adM.o rfl eH (jq _) ?_));intro u14 g14 k14 z14;have WG:Hid _:=g14;have Wy:Hid (Ch (· =w.heap.size+2) W u14):=Wx.o.trans k14;clear g14 k14 z14;go_wp2_with fail;go_meet;refine⟨_,rfl,?_,?_,?_,Wy.o⟩
     ·rw[aL,aL,aL,HB1.o,WV.o,W_.o,Xb.o,HL2.o];simp only[f_]
     ·rw[iC,iC,iC];omega
     ·rw[HQ2.o];exact WG.o
    |false=>
     have HL2:Hid (u_ q (strip r) p (if p.origin then p.row-top else p.row)=[27,91]++(lY rr pc++[72])):=by show _=_;unfold u_;rw[ai (by rw[hwt];decide),HRR.o,HPC.o]
     have HQ2:Hid (w_ q (strip r) p=q):=by show _=_;unfold w_;rw[ai (by rw[hwt];decide)]
     rw[hwt]at s2;clear hwt;go_wp2_with fail;refine(zC rr pc (by omega) (by omega) _).mono ?_;rintro e wP ⟨sa,rfl,hsa,smP⟩;have za:sa.size≤10:=by rw[←cZ,hsa];exact Fb _ _
     have WV:Hid _:=hsa;have TP:Hid _:=smP;clear hsa smP;go_wp2_with fail;go_meet;refine⟨_,rfl,by rw[aL,HB1.o,WV.o,HL2.o],?_,?_,Sm.ch TP.o⟩
     ·rw[iC];omega
     ·rw[HQ2.o];exact(TP.o.block _ (aK HG2.o) id).trans HG2.o
   case rest=>
    generalize hwc:wc=K3 at*;clear hwc wc;obtain⟨sx,rfl,hbx,zx,hgq,hch⟩:=hcut;obtain⟨q',hq'⟩:∃q',q'=w_ q (strip r) p:=⟨_,rfl⟩;rw[←hq']at hgq;have HGQ:Hid _:=hgq;have HGS:Hid (K3.heap[w.heap.size+1]? =some (.cells (aB p).toArray 82 (0,0))):=(hch.block _ (aK nZ.o) (by omega)).trans nZ.o;have HBX:Hid _:=hbx;have aee:Hid (Sm w K3):=oG.o.trans' hch (fun j hj e=>by omega);have HQ':Hid _:=hq';clear hbx hgq hch hq' c0 c1 s0 sx1 s2;go_wp2_with (first|(refine fC rfl 80 (.tmp 7) rfl (w.heap.size+1+1) rfl 80 (aW q') (0,0) _ HGQ.o underlying80 rfl eH ?_)|(refine nN rfl 80 (.tmp 70) rfl (w.heap.size+1) 3 rfl (dG p.pen) _ (Ir HGS.o) underlying80 rfl eH ?_));refine(uT q' p.pen Nk _).mono ?_;rintro e Wo ⟨st,rfl,hst,smt⟩;have zt:st.size≤20:=by rw[←cZ,hst];exact BG _ _ Nk
    have HST:Hid _:=hst;have Jd:Hid (Wo.heap[w.heap.size+1]? =some (.cells (aB p).toArray 82 (0,0))):=(smt.block _ (aK HGS.o) id).trans HGS.o;have aed:Hid (Sm w Wo):=aee.o.trans smt;have WX:Hid (Sm Wo Wo):=Ch.refl _ _;obtain⟨T3,Yo⟩:∃T,T=(if p.origin then[27,91,63,54,104]else[])++u_ q (strip r) p (if p.origin then p.row-top else p.row)++wG q' p.pen:=⟨_,rfl⟩;have HB3:Hid (bl (sx++st)=T3):=by show _=_;rw[aL,HBX.o,HST.o,Yo]
    have HT3:Hid _:=Yo;have c8:Wo.cell? ⟨w.heap.size+1,8,none⟩=some (.int .i64 p.first):=(bG _ _ _ _ _ _ Jd.o).trans rfl;have z3:(sx++st).size≤80:=by rw[iC];omega
    clear hst smt Yo;go_upto_if 76 with fail;go_cut [9] from 74 to 78 (fun s9 wc=>∃s:ByteArray,s9= .string s∧bl s=T3++(if p.first=1 then[27,40,48]else[])∧s.size≤83∧Sm Wo wc)
    case first=>
     have et:bl (⟨#[27,40,48]⟩:ByteArray)=[27,40,48]:=by kernel_rfl
     have ez:(⟨#[27,40,48]⟩:ByteArray).size≤3:=by decide
     by_cases hf:p.first=1
     ·have bf:(p.first==1)=true:=by simp[hf]
      have HF:Hid _:=hf;clear hf;go_wp2_with fail;go_meet;refine⟨_,rfl,by rw[aL,HB3.o,et,ak HF.o],?_,WX.o⟩;rw[iC];omega
     ·have bf:(p.first==1)=false:=by simp[hf]
      have HF:Hid _:=hf;clear hf;go_wp2_with fail;go_meet;exact⟨_,rfl,by rw[HB3.o,ai HF.o,gp],by omega,WX.o⟩
    case rest=>
     generalize hwc:wc=Tm at*;clear hwc wc;obtain⟨s4,rfl,hb4,z4,Vv⟩:=hcut;obtain⟨T4,OM⟩:∃T,T=T3++(if p.first=1 then[27,40,48]else[]):=⟨_,rfl⟩;rw[←OM]at hb4;have Ja:Hid _:=hb4;have aag:Hid _:=Vv;have rV:Hid _:=OM;have g14:=(Vv.block _ (aK Jd.o) id).trans Jd.o;have c8:Tm.cell? ⟨w.heap.size+1,8,none⟩=some (.int .i64 p.first):=(bG _ _ _ _ _ _ g14).trans rfl;have c9:Tm.cell? ⟨w.heap.size+1,9,none⟩=some (.int .i64 p.second):=(bG _ _ _ _ _ _ g14).trans rfl;have c10:Tm.cell? ⟨w.heap.size+1,10,none⟩=some (.int .i64 p.use):=(bG _ _ _ _ _ _ g14).trans rfl;clear hb4 Vv OM g14;go_upto_if 81 with fail;go_cut [9] from 79 to 83 (fun s9 wc=>∃s:ByteArray,s9= .string s∧bl s=T4++(if p.second=1 then[27,41,48]else[])∧s.size≤86∧Sm Wo wc)
     case first=>
      have et:bl (⟨#[27,41,48]⟩:ByteArray)=[27,41,48]:=by kernel_rfl
      have ez:(⟨#[27,41,48]⟩:ByteArray).size≤3:=by decide
      by_cases hf:p.second=1
      ·have bf:(p.second==1)=true:=by simp[hf]
       have HF:Hid _:=hf;clear hf;go_wp2_with fail;go_meet;refine⟨_,rfl,by rw[aL,Ja.o,et,ak HF.o],?_,aag.o⟩;rw[iC];omega
      ·have bf:(p.second==1)=false:=by simp[hf]
       have HF:Hid _:=hf;clear hf;go_wp2_with fail;go_meet;exact⟨_,rfl,by rw[Ja.o,ai HF.o,gp],by omega,aag.o⟩
     case rest=>
      generalize hwc:wc=El at*;clear hwc wc;obtain⟨s5,rfl,hb5,z5,KH⟩:=hcut;obtain⟨T5,Tg⟩:∃T,T=T4++(if p.second=1 then[27,41,48]else[]):=⟨_,rfl⟩;rw[←Tg]at hb5;have Jb:Hid _:=hb5;have TN:Hid _:=KH;have Am:Hid _:=Tg;have g15:=(KH.block _ (aK Jd.o) id).trans Jd.o;have c8:El.cell? ⟨w.heap.size+1,8,none⟩=some (.int .i64 p.first):=(bG _ _ _ _ _ _ g15).trans rfl;have c9:El.cell? ⟨w.heap.size+1,9,none⟩=some (.int .i64 p.second):=(bG _ _ _ _ _ _ g15).trans rfl;have c10:El.cell? ⟨w.heap.size+1,10,none⟩=some (.int .i64 p.use):=(bG _ _ _ _ _ _ g15).trans rfl;clear hb5 KH Tg g15;go_upto_if 86 with fail;go_cut [9] from 84 to 88 (fun s9 wc=>∃s:ByteArray,s9= .string s∧bl s=T5++(if p.use=1 then[14]else[])∧s.size≤89∧Sm Wo wc)
      case first=>
       have et:bl (⟨#[14]⟩:ByteArray)=[14]:=by kernel_rfl
       have ez:(⟨#[14]⟩:ByteArray).size≤3:=by decide
       by_cases hf:p.use=1
       ·have bf:(p.use==1)=true:=by simp[hf]
        have HF:Hid _:=hf;clear hf;go_wp2_with fail;go_meet;refine⟨_,rfl,by rw[aL,Jb.o,et,ak HF.o],?_,TN.o⟩;rw[iC];omega
       ·have bf:(p.use==1)=false:=by simp[hf]
        have HF:Hid _:=hf;clear hf;go_wp2_with fail;go_meet;exact⟨_,rfl,by rw[Jb.o,ai HF.o,gp],by omega,TN.o⟩
      case rest=>generalize hwc:wc=K_ at*;clear hwc wc;obtain⟨s6,rfl,hb6,z6,YY⟩:=hcut;obtain⟨T6,Ti⟩:∃T,T=T5++(if p.use=1 then[14]else[]):=⟨_,rfl⟩;rw[←Ti]at hb6;have SL:Hid _:=hb6;have aec:Hid _:=YY;have xR:Hid _:=Ti;have g16:=(YY.block _ (aK Jd.o) id).trans Jd.o;have c8:K_.cell? ⟨w.heap.size+1,8,none⟩=some (.int .i64 p.first):=(bG _ _ _ _ _ _ g16).trans rfl;have c9:K_.cell? ⟨w.heap.size+1,9,none⟩=some (.int .i64 p.second):=(bG _ _ _ _ _ _ g16).trans rfl;have c10:K_.cell? ⟨w.heap.size+1,10,none⟩=some (.int .i64 p.use):=(bG _ _ _ _ _ _ g16).trans rfl;clear hb6 YY Ti g16;go_wp2_with fail;go_ret;refine⟨_,rfl,?_,aed.o.trans aec.o⟩;rw[SL.o,xR.o,Am.o,rV.o,HT3.o,HQ'.o];rfl
end Go.Proofs.YtheibfffilomcaaGreatDoor
