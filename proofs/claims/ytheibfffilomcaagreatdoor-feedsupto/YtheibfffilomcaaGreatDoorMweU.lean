import Derived.Test.YtheibfffilomcaaGreatDoorTmaU
import Derived.Test.YtheibfffilomcaaGreatDoorMwaU
import Derived.StillTail
import Derived.StillTactics
set_option linter.all false
set_option maxRecDepth 100000
set_option maxHeartbeats 2000000
namespace Go.Proofs.YtheibfffilomcaaGreatDoor
open Go.RowKit Go.Proofs.Tryz
variable {w:World} {s:MS} {mb mo:Nat} {a:Act} {ops:Array Oper} {rest:List Oper}
theorem Km.set(j:Nat)(x:Value)(hj:j<19):Km mb mo w (w.setCell ⟨mb,mo+j,none⟩ x):=by refine⟨rfl,rfl,rfl,by simp[World.setCell],fun k _ hn=>AQ _ _ _ _ hn,fun o ho=>dK _ _ _ _ _ (by omega),fun o=>?_⟩;simp
theorem kS.set{s':MS}(h:kS w mb mo s)(j:Nat)(x:Int)(hj:j<19)(hl:s'.l=s.l.set j x)(hp:s'.ps.length=16):kS (w.setCell ⟨mb,mo+j,none⟩ (.int .i64 x)) mb mo s':=by
 refine⟨hp,fun i v hv=>?_,fun i hi=>?_⟩
 ·rw[hl]at hv;have hlen:=h.Wd;have hi:i<19:=by have:=(gJ.1 hv).1;simp[eF,hlen]at this;exact this
  by_cases hij:j=i
  ·subst hij;have hv':(eF (s.l.set j x))[j]? =some (.int .i64 x):=by rw[jo _ _ (by simp[hlen];exact hj)];simp[List.getD,hlen,hj]
   rw[hv']at hv;cases hv;exact FZ _ _ _ (h.at j hj)
  ·rw[dK _ _ _ _ _ (by omega)];have:(eF (s.l.set j x))[i]? =(eF s.l)[i]? :=by simp only[eF,pW,List.getElem?_set_ne hij]
   rw[this]at hv;exact h.Cw i v hv
 ·simp only[World.frozen?_setCell];exact h.fr i hi
theorem kS.acS(h:kS w mb mo s)(k:Nat)(x:Int)(hk:k<16):kS (w.setCell ⟨mb,mo+3+k,none⟩ (.int .i64 x)) mb mo ⟨s.md,s.mr,s.ct,s.ps.set k x⟩:=by have:=h.set (s':=⟨s.md,s.mr,s.ct,s.ps.set k x⟩) (3+k) x (by omega) (by simp[MS.l,show 3+k=k+1+1+1 by omega]) (by simp[h.len]);rw[←Nat.add_assoc]at this;exact this
theorem kS.acQ(h:kS w mb mo s)(x:Int):kS (w.setCell ⟨mb,mo+2,none⟩ (.int .i64 x)) mb mo ⟨s.md,s.mr,x,s.ps⟩:=
 h.set (s':=⟨s.md,s.mr,x,s.ps⟩) 2 x (by omega) rfl h.len
theorem kS.acT(h:kS w mb mo s)(x:Int):kS (w.setCell ⟨mb,mo+1,none⟩ (.int .i64 x)) mb mo ⟨s.md,x,s.ct,s.ps⟩:=
 h.set (s':=⟨s.md,x,s.ct,s.ps⟩) 1 x (by omega) rfl h.len
theorem kS.acR(h:kS w mb mo s)(x:Int):kS (w.setCell ⟨mb,mo,none⟩ (.int .i64 x)) mb mo ⟨x,s.mr,s.ct,s.ps⟩:=
 h.set (s':=⟨x,s.mr,s.ct,s.ps⟩) 0 x (by omega) rfl h.len
theorem kS.drew(h:kS w mb mo s):kS w.drew mb mo s:=h.kept rfl
theorem Km.drew{u:World}(h:Km mb mo w u):Km mb mo w u.drew:=⟨h.os,h.tape,h.output,h.size,h.block,h.cell,h.frozen⟩
theorem Ab(mb mo:Nat)(s:MS)(w:World)(h:kS w mb mo s)(h0:0≤s.ct)(h1:s.ct≤17):
 Calls prog 162 #[.pointer (some ⟨mb,mo,none⟩)] w fun e w'=>e= .returned (.tuple #[])∧kS w' mb mo s.jm∧Km mb mo w w':=by
 obtain⟨k,hk⟩:=Int.eq_ofNat_of_zero_le h0;have c2:=h.c2;have f2:=h.fr 2 (by omega);rw[hk]at c2;by_cases hlt:k<16
 ·have cp:=h.cp k hlt;have fp:=h.fr (3+k) (by omega);rw[←Nat.add_assoc]at fp;have hmin:min ((k:Int)+1) 17=(k:Int)+1:=by omega
  have e:s.jm=⟨s.md,s.mr,(k:Int)+1,s.ps.set k (-1)⟩:=by unfold MS.jm;rw[hk,ak (by omega),hmin];rfl
  have i1:(k:Int)<16:=by omega
  have R:kS ((w.setCell ⟨mb,mo+3+k,none⟩ (.int .i64 (-1))).setCell ⟨mb,mo+2,none⟩ (.int .i64 ((k:Int)+1))) mb mo s.jm:=by rw[e];exact(h.acS k (-1) hlt).acQ _
  have K:Km mb mo w ((w.setCell ⟨mb,mo+3+k,none⟩ (.int .i64 (-1))).setCell ⟨mb,mo+2,none⟩ (.int .i64 ((k:Int)+1))):=by have k1:Km mb mo w (w.setCell ⟨mb,mo+(3+k),none⟩ (.int .i64 (-1))):=Km.set (3+k) _ (by omega);rw[←Nat.add_assoc]at k1;exact k1.trans (Km.set 2 _ (by omega))
  clear e hk;go_enter func162,ntmps162;go_wp2_with fail;go_region
  all_goals go_wp2_with fail
  all_goals go_end0
  all_goals exact⟨rfl,R.drew,K.drew⟩
 ·have hmin:min ((k:Int)+1) 17=17:=by omega
  have e:s.jm=⟨s.md,s.mr,17,s.ps⟩:=by unfold MS.jm;rw[hk,ai (by omega),hmin]
  have i1:¬(k:Int)<16:=by omega
  have R:kS (w.setCell ⟨mb,mo+2,none⟩ (.int .i64 17)) mb mo s.jm:=by rw[e];exact h.acQ _
  have K:Km mb mo w (w.setCell ⟨mb,mo+2,none⟩ (.int .i64 17)):=Km.set 2 _ (by omega);have ai9:k≤17:=by omega
  clear e hk;rcases(show k=16∨k=17 by omega)with rfl|rfl
  ·clear i1 hmin;go_enter func162,ntmps162;go_wp2_with fail;go_end0;exact⟨rfl,R,K⟩
  ·clear i1 hmin;go_enter func162,ntmps162;go_wp2_with fail;go_end0;exact⟨rfl,R,K⟩
theorem EY(mb mo:Nat)(s:MS)(d:Int)(w:World)(h:kS w mb mo s)(hs:s.ok)(h1:1≤s.ct)(hd0:0≤d)(hd1:d≤9):
 Calls prog 164 #[.pointer (some ⟨mb,mo,none⟩),.int .i64 d] w fun e w'=>e= .returned (.tuple #[])∧kS w' mb mo (s.jF d)∧Km mb mo w w':=by
 have c2:=h.c2;have h17:=hs.c1;by_cases hgt:16<s.ct
 ·have e:s.jF d=s:=by simp[MS.jF,hgt]
  rw[e];clear e;go_enter func164,ntmps164;go_wp2_with fail;refine bX (dz rfl _ _ _) rfl ?_;exact⟨rfl,h,Km.refl _ _ _⟩
 ·obtain⟨k,hk⟩:=Int.eq_ofNat_of_zero_le (show 0≤s.ct-1 by omega);have hk1:s.ct=(k:Int)+1:=by omega
  have ab5:k<16:=by omega
  have cp:=h.cp k ab5;have fp:=h.fr (3+k) (by omega);rw[←Nat.add_assoc]at fp;have hx:=L6 hs.p k;have e:s.jF d=⟨s.md,s.mr,s.ct,s.ps.set k (min (max (s.ps.getD k 0) 0*10+d) 65535)⟩:=by unfold MS.jF;rw[ai hgt,hk];rfl
  have R:kS (w.setCell ⟨mb,mo+3+k,none⟩ (.int .i64 (min (max (s.ps.getD k 0) 0*10+d) 65535))) mb mo (s.jF d):=by rw[e];exact h.acS k _ ab5
  have K:Km mb mo w (w.setCell ⟨mb,mo+3+k,none⟩ (.int .i64 (min (max (s.ps.getD k 0) 0*10+d) 65535))):=by have k1:Km mb mo w (w.setCell ⟨mb,mo+(3+k),none⟩ (.int .i64 (min (max (s.ps.getD k 0) 0*10+d) 65535))):=Km.set (3+k) _ (by omega);rw[←Nat.add_assoc]at k1;exact k1
  rw[hk1]at c2;have i1:(k:Int)<16:=by omega
  have hg2:¬16<(k:Int)+1:=by omega
  generalize s.ps.getD k 0=x at*;clear e hk hk1 hgt h17;rcases(show x<0∨x=0∨0<x by omega)with hx0|rfl|hx0
  ·have ez:min (max x 0*10+d) 65535=d:=by omega
   rw[ez]at R K;clear ez;have hd:d≤65535:=by omega
   go_enter func164,ntmps164;go_wp2_with fail;go_region
   all_goals go_wp2_with fail
   all_goals go_region
   all_goals go_wp2_with fail
   all_goals go_end0
   all_goals exact⟨rfl,R.kept rfl,K.trans ⟨rfl,rfl,rfl,bN _,fun _ _ _=>rfl,fun _ _=>rfl,fun _=>rfl⟩⟩
  ·have ez:min (max 0 0*10+d) 65535=d:=by omega
   rw[ez]at R K;clear ez;have hd:d≤65535:=by omega
   go_enter func164,ntmps164;go_wp2_with fail;go_region
   all_goals go_wp2_with fail
   all_goals go_region
   all_goals go_wp2_with fail
   all_goals go_end0
   all_goals exact⟨rfl,R.kept rfl,K.trans ⟨rfl,rfl,rfl,bN _,fun _ _ _=>rfl,fun _ _=>rfl,fun _=>rfl⟩⟩
  ·have hx1:0≤x:=by omega
   by_cases hbig:x*10+d≤65535
   ·have ez:min (max x 0*10+d) 65535=x*10+d:=by omega
    rw[ez]at R K;clear ez;go_enter func164,ntmps164;go_wp2_with fail;go_region
    all_goals go_wp2_with fail
    all_goals go_region
    all_goals go_wp2_with fail
    all_goals go_end0
    all_goals exact⟨rfl,R.kept rfl,K.trans ⟨rfl,rfl,rfl,bN _,fun _ _ _=>rfl,fun _ _=>rfl,fun _=>rfl⟩⟩
   ·have ez:min (max x 0*10+d) 65535=65535:=by omega
    rw[ez]at R K;clear ez;go_enter func164,ntmps164;go_wp2_with fail;go_region
    all_goals go_wp2_with fail
    all_goals go_region
    all_goals go_wp2_with fail
    all_goals go_end0
    all_goals exact⟨rfl,R.kept rfl,K.trans ⟨rfl,rfl,rfl,bN _,fun _ _ _=>rfl,fun _ _=>rfl,fun _=>rfl⟩⟩
theorem acp{l:List Int}(h:l.length=16):∃p0 p1 p2 p3 p4 p5 p6 p7 p8 p9 p10 p11 p12 p13 p14 p15,l=[p0,p1,p2,p3,p4,p5,p6,p7,p8,p9,p10,p11,p12,p13,p14,p15]:=by
 match l,h with
 | [p0,p1,p2,p3,p4,p5,p6,p7,p8,p9,p10,p11,p12,p13,p14,p15],_=>exact⟨_,_,_,_,_,_,_,_,_,_,_,_,_,_,_,_,rfl⟩
theorem mixed:prog.follows .mixedOrders=true:=by kernel_rfl
theorem zR{P:Program}{Q:Act→Prop}{o:Oper}(hgd:o.guard=none)(ty:TypeId)(x:Operand)(ho:o.op= .load ty x)(b off:Nat)(hx:a.eval x= .pointer (some ⟨b,off,none⟩))(cs:List Value)(d:TypeDesc)(hc:w.rangeAt b off cs)(hu:P.underlying ty=some d)(hd:d.isRow=true)(hi:(P.info? ty).map (·.size)=some cs.length)(h:wpStill P ops w Q rest (a.put o.dst (.agg cs.toArray))):wpStill P ops w Q (o::rest) a:=by
 refine wpStill_step fun K hK=>?_;have hw:Region.wanted o (yielded ops a.tmps)=true:=by simp[Region.wanted,hgd]
 rw[ak hw];unfold Oper.still execOp;simp only[ho,hx,Instr.loadAt,Instr.sureAddr,jV,mK,jU,run_loadVar_mid w b off ty cs d hc hu hd hi,Oper.stillUpon];exact⟨trivial,hK _ h⟩
theorem Ox{g:Nat}{ev:List Int}{t:TypeId}(h:w.heap[g]? =some (.cells (aA ev) t (0,0))):w.there g 0 ev.length:=fun j hj=>by refine⟨?_,oh w g _ _ t h⟩;rw[bG _ _ _ _ _ _ h];simp[aA,eF,hj]
theorem QX:(prog.info? 44).map (·.size)=some 16:=by kernel_rfl
theorem KD(mb mo:Nat)(s:MS)(f:Int)(w:World)(h:kS w mb mo s)(hs:s.ok)(h1:1≤s.ct):
 Calls prog 165 #[.pointer (some ⟨mb,mo,none⟩),.int .i64 f] w fun e w'=>e= .returned (.agg (aA (s.nA f)))∧Below w.heap.size w w':=by
 have c1:=h.c1;have c2:=h.c2;have hlt:=h.lt;have h17:=hs.c1;have rg:w.rangeAt mb (mo+3) (eF s.ps):=fun j v hv=>by
  have hj:j<16:=by have:=(gJ.1 hv).1;simpa[eF,h.len]using this
  rw[jo _ _ (by rw[h.len];exact hj)]at hv;rw[h.cp j hj];exact hv
 obtain⟨p0,p1,p2,p3,p4,p5,p6,p7,p8,p9,p10,p11,p12,p13,p14,p15,hp⟩:=acp h.len;have e:s.nA f=[4,0,s.mr,f,min s.ct 16,p0,p1,p2,p3,p4,p5,p6,p7,p8,p9,p10,p11,p12,p13,p14,p15]:=by unfold MS.nA;rw[hp];rfl
 rw[hp]at rg;have rg':w.rangeAt mb (mo+3) [.int .i64 p0,.int .i64 p1,.int .i64 p2,.int .i64 p3,.int .i64 p4,.int .i64 p5,.int .i64 p6,.int .i64 p7,.int .i64 p8,.int .i64 p9,.int .i64 p10,.int .i64 p11,.int .i64 p12,.int .i64 p13,.int .i64 p14,.int .i64 p15]:=rg;have HE:Hid _:=e;clear e rg hp;have hu:=underlying44;have hi:=QX;go_enter func165,ntmps165;go_wp2_with fail;generalize hW:w.alloc (Obj.cells #[.int .i64 0,.int .i64 0,.int .i64 0,.int .i64 0,.int .i64 0,.int .i64 0,.int .i64 0,.int .i64 0,.int .i64 0,.int .i64 0,.int .i64 0,.int .i64 0,.int .i64 0,.int .i64 0,.int .i64 0,.int .i64 0,.int .i64 0,.int .i64 0,.int .i64 0,.int .i64 0,.int .i64 0] 46)=W;have Zi:W=w.alloc (.cells (aA aO) 46):=hW.symm;have d1:W.cell? ⟨mb,mo+1,none⟩=some (.int .i64 s.mr):=by rw[Zi];exact(dA (gK _ _ _ hlt)).trans c1
 have d2:W.cell? ⟨mb,mo+2,none⟩=some (.int .i64 s.ct):=by rw[Zi];exact(dA (gK _ _ _ hlt)).trans c2
 have d3:W.rangeAt mb (mo+3) [.int .i64 p0,.int .i64 p1,.int .i64 p2,.int .i64 p3,.int .i64 p4,.int .i64 p5,.int .i64 p6,.int .i64 p7,.int .i64 p8,.int .i64 p9,.int .i64 p10,.int .i64 p11,.int .i64 p12,.int .i64 p13,.int .i64 p14,.int .i64 p15]:=by rw[Zi];exact World.rangeAt_alloc rg' _
 have hg:W.heap[w.heap.size]? =some (.cells (aA aO) 46 (0,0)):=by rw[Zi];exact bV _ _
 have d4:W.there w.heap.size 0 21:=Ox hg;have bl0:Below w.heap.size w W:=by rw[Zi];exact(dU _ _).alloc (bN _) _
 have HG:Hid _:=hg;clear hW Zi rg' c1 c2 hg;clear hu hi;have hmin:min s.ct 16=if 16<s.ct then 16 else s.ct:=by split<;>omega
 have ev:s.nA f=[4,0,s.mr,f,if 16<s.ct then 16 else s.ct,p0,p1,p2,p3,p4,p5,p6,p7,p8,p9,p10,p11,p12,p13,p14,p15]:=by rw[HE.o,hmin]
 have HV:Hid _:=ev;clear ev hmin;refine wp_region_still_tail 15 mixed (by kernel_rfl) ?_;simp only[List.take_succ_cons,List.take_zero,AP,List.drop_zero]
 iterate 13 still_step
 refine zR rfl 44 (.tmp 17) rfl mb (mo+3) rfl [.int .i64 p0,.int .i64 p1,.int .i64 p2,.int .i64 p3,.int .i64 p4,.int .i64 p5,.int .i64 p6,.int .i64 p7,.int .i64 p8,.int .i64 p9,.int .i64 p10,.int .i64 p11,.int .i64 p12,.int .i64 p13,.int .i64 p14,.int .i64 p15] _ d3 underlying44 rfl QX ?_
 still_step
 refine wpStill_nil ?_;refine b_ _ rfl (.tmp 4) (.tmp 19) rfl w.heap.size aO [4,0,s.mr,f,if 16<s.ct then 16 else s.ct,p0,p1,p2,p3,p4,p5,p6,p7,p8,p9,p10,p11,p12,p13,p14,p15] rfl _ rfl rfl rfl 46 HG.o rfl ?_;intro u hg hgr hz;have bl1:Below w.heap.size w u:=(bl0.drew).grown hgr bl0.size (fun k e=>by simp at e;omega);clear d1 d2 d3 d4;go_wp2_with fail
 all_goals refine bX (iF results165 _ u w.heap.size _ rfl 46 (0,0) rfl hg) rfl ?_
 all_goals rw[HV.o]
 all_goals exact⟨rfl,bl1⟩
theorem jc{fn:Func}{p q:Tmp}(hres:fn.results= #[.cell p 46,.tmp q])(hd:a.defers=[])(w u:World)(mb mo:Nat)(s':MS)(ev:List Int)(b:Bool)(hev:ev.length=21)(hp:a.tmps.getD p undef= .pointer (some ⟨w.heap.size,0,none⟩))(hq:a.tmps.getD q undef= .bool b)(hg:u.heap[w.heap.size]? =some (.cells (aA ev) 46 (0,0)))(hm:kS u mb mo s')(hk:Km mb mo w u):
 bodyPost prog fn (fun e w'=>e= .returned (.tuple #[.agg (aA ev),.bool b])∧kS w' mb mo s'∧Km mb mo w w') .ret a u:=
 bX (Kr hres a.tmps u w.heap.size ev hev 46 (0,0) hp hg) hd ⟨by rw[hq],hm,hk⟩
theorem Ak(h:s.ps.length=16)(c:Int):(s.dJ c).2.1.length=21:=by
 unfold MS.dJ
 repeat' split
 all_goals first|rfl|simp[MS.nA,h]
theorem II(s:MS)(c:Int):(s.eZ c).2.1.length=21:=by
 unfold MS.eZ
 repeat' split
 all_goals rfl
theorem vC(h:s.ps.length=16)(c:Int):(s.dm c).2.1.length=21:=by
 unfold MS.dm
 repeat' split
 all_goals first|rfl|exact II s c|exact Ak h c|exact Ak (s:=⟨3,s.mr,s.ct,s.ps⟩) h c
theorem Ec(h:s.ps.length=16)(c:Int):(s.take c).2.1.length=21:=by
 unfold MS.take
 repeat' split
 all_goals first|rfl|exact vC h c
theorem yO(mb mo:Nat)(s:MS)(c:Int)(w:World)(h:kS w mb mo s)(hs:s.ok)(hc0:0≤c)(hc1:c≤10000000)(h1:1≤s.ct):
 Calls prog 96 #[.pointer (some ⟨mb,mo,none⟩),.int .i64 c] w fun e w'=>e= .returned (.tuple #[.agg (aA (s.dJ c).2.1),.bool (s.dJ c).2.2])∧kS w' mb mo (s.dJ c).1∧Km mb mo w w':=by
 have hlt:=h.lt;have k0:∀o,Km mb mo w (w.alloc o):=fun o=>(Km.refl mb mo w).alloc o hlt;by_cases hd:48≤c∧c≤57
 ·obtain⟨hd0,hd1⟩:=hd;have e:s.dJ c=(s.jF (c-48),aO,false):=by simp[MS.dJ,hd0,hd1]
  rw[e];clear e;go_enter func96,ntmps96;go_wp2_with fail;refine(EY mb mo s (c-48) _ (h.alloc _) hs h1 (by omega) (by omega)).mono ?_;rintro e u1 ⟨rfl,Va,Q8⟩;have yo:u1.heap[w.heap.size]? =some (.cells (aA aO) 46 (0,0)):=(Q8.block _ (by simp) (by omega)).trans (bV _ _);go_wp2_with (refine b_ _ rfl (.tmp 4) (.tmp 36) rfl w.heap.size aO aO rfl _ rfl ?q1 rfl 46 yo rfl ?_)
  case q1=>rfl
  intro u2 FT DZ zu2;have mu2:=Va.own DZ (by omega);have ku2:=((k0 _).trans Q8).own DZ (bN _) hlt;go_wp2_with fail;exact jc results96 rfl w u2 mb mo _ _ _ rfl rfl rfl FT (mu2) (ku2)
 ·have hdd:(decide (48≤c)&&decide (c≤57))=false:=by
   by_cases a:48≤c
   ·have:¬c≤57:=fun b=>hd ⟨a,b⟩;simp[this]
   ·simp[a]
  have hnd:c<48∨57<c:=by omega
  by_cases h59:c=59
  ·have e:s.dJ c=(s.jm,aO,false):=by simp[MS.dJ,h59]
   rw[e];clear e hd hdd hnd;subst h59;go_enter func96,ntmps96;go_wp2_with fail;refine(Ab mb mo s _ (h.alloc _) hs.c0 hs.c1).mono ?_;rintro e u1 ⟨rfl,Va,Q8⟩;have yo:u1.heap[w.heap.size]? =some (.cells (aA aO) 46 (0,0)):=(Q8.block _ (by simp) (by omega)).trans (bV _ _);go_wp2_with (refine b_ _ rfl (.tmp 4) (.tmp 36) rfl w.heap.size aO aO rfl _ rfl ?q2 rfl 46 yo rfl ?_)
   case q2=>rfl
   intro u2 FT DZ zu2;have mu2:=Va.own DZ (by omega);have ku2:=((k0 _).trans Q8).own DZ (bN _) hlt;go_wp2_with fail;exact jc results96 rfl w u2 mb mo _ _ _ rfl rfl rfl FT (mu2) (ku2)
  ·have b59:(c==59)=false:=by simp[h59]
   cases hf:fe c with
   |true=>
    have e:s.dJ c=(.zero,s.nA c,true):=by unfold MS.dJ;rw[ai hd,ai h59,ak hf]
    rw[e];have HF:Hid _:=hf;have gq:(s.nA c).length=21:=by simp[MS.nA,hs.len]
    clear e hd hf h59;rcases hnd with hnd|hnd
    all_goals
     go_enter func96,ntmps96;go_wp2_with fail;refine(ym c true _ HF.o).mono ?_;rintro e w1 ⟨rfl,rfl⟩;go_wp2_with fail;refine(KD mb mo s c _ (h.alloc _) hs h1).mono ?_;rintro e u1 ⟨rfl,b1⟩;have hz1:w.heap.size<u1.heap.size:=by have:=b1.size;simp at this;omega
     have m1:kS u1 mb mo s:=(h.alloc _).kept (b1.block mb (by simp;omega));have g1:u1.heap[w.heap.size]? =some (.cells (aA aO) 46 (0,0)):=(b1.block w.heap.size (by simp)).trans (bV _ _);have k1:Km mb mo w u1:=(k0 _).trans (Km.of_below b1 (by simp;omega));clear b1;go_wp2_with (refine b_ _ rfl (.tmp 6) (.tmp 31) rfl u1.heap.size aO (s.nA c) rfl _ rfl rfl gq 46 (bV u1 _) rfl ?_);intro u2 FT DZ zu2;have m2:=(m1.alloc _).own DZ (by omega);have g2:=(DZ.block w.heap.size (by simp;omega) (by simp;omega)).trans ((gK u1 _ _ hz1).trans g1);have k2:=(k1.alloc _ hlt).own DZ (by omega) hlt;have hz2:u1.heap.size<u2.heap.size:=by have:=DZ.size;simp at this;omega
     clear m1 g1 k1 DZ;go_wp2_with (refine mV _ rfl (.tmp 34) (.tmp 33) rfl mb mo s .zero rfl _ rfl rfl jb m2 ?_);intro u3 m3 k3 z3;have g3:=(k3.block w.heap.size (by omega) (by omega)).trans g2;have ge3:=(k3.block u1.heap.size (by omega) (by omega)).trans FT;have kk3:=k2.trans k3;clear m2 g2 k2 k3 FT;go_wp2_with (first|(refine fA _ rfl (.tmp 6) rfl u1.heap.size (s.nA c) rfl gq 46 (0,0) ge3 ?_)|(refine b_ _ rfl (.tmp 4) (.tmp 35) rfl w.heap.size aO (s.nA c) rfl _ rfl rfl gq 46 g3 rfl ?_;intro u4 gu4 ru4 zu4));have mu4:=m3.own (‹World.grownBy u3 _ (some w.heap.size)›) (by omega);have ku4:=kk3.own (‹World.grownBy u3 _ (some w.heap.size)›) (bN _) hlt;exact jc results96 rfl w _ mb mo _ _ _ gq rfl rfl ‹_› mu4 ku4
   |false=>
    have e:s.dJ c=(⟨4,0,0,z16⟩,aO,false):=by unfold MS.dJ;rw[ai hd,ai h59,ai (by simp[hf])]
    rw[e];have HF:Hid _:=hf;clear e hd hf h59;rcases hnd with hnd|hnd
    all_goals
     go_enter func96,ntmps96;go_wp2_with fail;refine(ym c false _ HF.o).mono ?_;rintro e w1 ⟨rfl,rfl⟩;go_wp2_with (refine mV _ rfl (.tmp 9) (.tmp 8) rfl mb mo s ⟨4,0,0,z16⟩ rfl _ rfl rfl jb (h.alloc _) ?_);intro u1 m1 k1 z1;have g1:u1.heap[w.heap.size]? =some (.cells (aA aO) 46 (0,0)):=(k1.block _ (by simp) (by omega)).trans (bV _ _);have kk1:=(k0 _).trans k1;clear k1;go_wp2_with (refine b_ _ rfl (.tmp 4) (.tmp 36) rfl w.heap.size aO aO rfl _ rfl rfl rfl 46 g1 rfl ?_);intro u2 FT DZ zu2;have mu2:=m1.own DZ (by omega);have ku2:=kk1.own DZ (bN _) hlt;go_wp2_with fail;exact jc results96 rfl w u2 mb mo _ _ _ rfl rfl rfl FT mu2 ku2
theorem yT{o:Oper}{Q:Exit→Act→World→Prop}(u:World)(hgd:o.guard=none)(ty:TypeId)(hsz:(prog.info? ty).map (·.size)=some 1)(x y:Operand)(ho:o.op= .store ty x y)(mb mo j:Nat)(hj:j<19)(s s':MS)(c:Int)(hx:a.eval x= .pointer (some ⟨mb,mo+j,none⟩))(hy:a.eval y= .int .i64 c)(hm:kS u mb mo s)(hm':kS (u.setCell ⟨mb,mo+j,none⟩ (.int .i64 c)) mb mo s')(h:∀u',kS u' mb mo s'→Km mb mo u u'→u'.heap.size=u.heap.size→wpList prog ops Q rest (a.put o.dst undef) u'):wpList prog ops Q (o::rest) a u:=by
 have hc:=hm.at j hj;have hf:=hm.fr j hj;refine oq hgd fun K hK=>?_;have R:=hK _ _ (h _ hm' (Km.set j _ hj) (by simp[World.setCell]));have hs:(sizeOf ty).run prog u= .ok 1 u:=by
  cases hq:prog.info? ty with
  |none=>simp[hq]at hsz
  |some i=>
   have:i.size=1:=by simpa[hq]using hsz
   simp[sizeOf,typeInfo,hq,this]
 unfold Oper.wp execOp;simp only[ho,hx,hy];go_simp;exact R
theorem Wm:(prog.info? 3).map (·.size)=some 1:=by kernel_rfl
theorem RU:(prog.info? 69).map (·.size)=some 1:=by kernel_rfl
theorem uB(w:World)(a b:Obj):((w.alloc a).alloc b).heap[w.heap.size]? =some a∧((w.alloc a).alloc b).heap[w.heap.size+1]? =some b:=by
 have z1:(w.alloc a).heap.size=w.heap.size+1:=by simp
 exact⟨(gK _ b _ (by omega)).trans (bV w a),z1▸bV (w.alloc a) b⟩
theorem FE(mb mo:Nat)(s:MS)(c:Int)(w:World)(h:kS w mb mo s)(hc0:32≤c):
 Calls prog 94 #[.pointer (some ⟨mb,mo,none⟩),.int .i64 c] w fun e w'=>e= .returned (.tuple #[.agg (aA (s.eZ c).2.1),.bool (s.eZ c).2.2])∧kS w' mb mo (s.eZ c).1∧Km mb mo w w':=by
 have hlt:=h.lt;have k0:∀o,Km mb mo w (w.alloc o):=fun o=>(Km.refl mb mo w).alloc o hlt;by_cases h91:c=91
 ·have e:s.eZ c=(MS.jm ⟨2,0,0,z16⟩,aO,false):=by simp[MS.eZ,h91]
  rw[e];clear e;subst h91;go_enter func94,ntmps94;go_wp2_with (refine mV _ rfl (.tmp 15) (.tmp 14) rfl mb mo _ ⟨2,0,0,z16⟩ rfl _ rfl rfl jb (h.alloc _) ?_);intro u1 m1 k1 z1;go_wp2_with fail;refine(Ab mb mo ⟨2,0,0,z16⟩ _ m1 (by decide) (by decide)).mono ?_;rintro e u2 ⟨rfl,m2,k2⟩;have k12:=k1.trans k2;have FT:u2.heap[w.heap.size]? =some (.cells (aA aO) 46 (0,0)):=(k12.block _ (by simp) (by omega)).trans (bV _ _);go_wp2_with (refine b_ _ rfl (.tmp 4) (.tmp 44) rfl w.heap.size aO aO rfl _ rfl rfl rfl 46 FT rfl ?_);intro v1 kU kI yV;have mv:=m2.own kI (by omega);have kv:=((k0 _).trans k12).own kI (bN _) hlt;go_wp2_with fail;exact jc results94 rfl w v1 mb mo _ _ _ rfl rfl rfl kU mv kv
 ·have b91:(c==91)=false:=by simp[h91]
  cases ht:lC c with
  |true=>
   have e:s.eZ c=(⟨5,0,0,z16⟩,aO,false):=by unfold MS.eZ;rw[ai h91,ak ht]
   rw[e];have HT:Hid _:=ht;clear e ht h91;go_enter func94,ntmps94;go_wp2_with fail;refine(Az c true _ HT.o).mono ?_;rintro e w1 ⟨rfl,rfl⟩;go_wp2_with (refine mV _ rfl (.tmp 23) (.tmp 22) rfl mb mo _ ⟨5,0,0,z16⟩ rfl _ rfl rfl jb (h.alloc _) ?_);intro u1 m1 k1 z1;have yo:u1.heap[w.heap.size]? =some (.cells (aA aO) 46 (0,0)):=(k1.block _ (by simp) (by omega)).trans (bV _ _);go_wp2_with (refine b_ _ rfl (.tmp 4) (.tmp 44) rfl w.heap.size aO aO rfl _ rfl rfl rfl 46 yo rfl ?_);intro v1 kU kI yV;have mv:=m1.own kI (by omega);have kv:=((k0 _).trans k1).own kI (bN _) hlt;go_wp2_with fail;exact jc results94 rfl w v1 mb mo _ _ _ rfl rfl rfl kU mv kv
  |false=>
   have HT:Hid _:=ht;by_cases h47:c≤47
   ·have e:s.eZ c=(⟨s.md,c,s.ct,s.ps⟩,aO,false):=by unfold MS.eZ;rw[ai h91,ai (by simp[ht]),ak h47]
    rw[e];clear e ht h91;go_enter func94,ntmps94;go_wp2_with fail;refine(Az c false _ HT.o).mono ?_;rintro e w1 ⟨rfl,rfl⟩;go_wp2_with (refine yT _ rfl 3 Wm (.tmp 30) (.tmp 28) rfl mb mo 1 (by omega) s ⟨s.md,c,s.ct,s.ps⟩ c rfl rfl (h.alloc _) ((h.alloc _).acT c) ?_);intro u1 m1 k1 z1;have yo:u1.heap[w.heap.size]? =some (.cells (aA aO) 46 (0,0)):=(k1.block _ (by simp) (by omega)).trans (bV _ _);go_wp2_with (refine b_ _ rfl (.tmp 4) (.tmp 44) rfl w.heap.size aO aO rfl _ rfl rfl rfl 46 yo rfl ?_);intro v1 kU kI yV;have mv:=m1.own kI (by omega);have kv:=((k0 _).trans k1).own kI (bN _) hlt;go_wp2_with fail;exact jc results94 rfl w v1 mb mo _ _ _ rfl rfl rfl kU mv kv
   ·by_cases h126:c≤126
    ·have e:s.eZ c=(.zero,[3,0,s.mr,c,0]++z16,true):=by unfold MS.eZ;rw[ai h91,ai (by simp[ht]),ai h47,ak h126]
     rw[e];clear e ht h91;have c1:=h.c1;go_enter func94,ntmps94;go_wp2_with fail;refine(Az c false _ HT.o).mono ?_;rintro e w1 ⟨rfl,rfl⟩;go_wp2_with (refine b_ _ rfl (.tmp 6) (.tmp 39) rfl (w.heap.size+1) aO ([3,0,s.mr,c,0]++z16) rfl _ rfl rfl rfl 46 (uB w _ _).2 rfl ?_);intro u0 gu0 ru0 zu0;have m0:=((h.alloc _).alloc _).own ru0 (by omega);have g0:=(ru0.block w.heap.size (by simp;omega) (by simp)).trans (uB w _ _).1;have kk0:=((k0 _).alloc _ hlt).own ru0 (by omega) hlt;have zz0:w.heap.size+1<u0.heap.size:=by have:=ru0.size;simp at this;omega
     clear ru0 c1;go_wp2_with (refine mV _ rfl (.tmp 42) (.tmp 41) rfl mb mo _ .zero rfl _ rfl rfl jb m0 ?_);intro u1 m1 k1 z1;have yo:=(k1.block w.heap.size (by omega) (by omega)).trans g0;have ge1:=(k1.block (w.heap.size+1) (by omega) (by omega)).trans gu0;have kk1:=kk0.trans k1;clear m0 g0 kk0 k1 gu0;go_wp2_with (first|(refine fA _ rfl (.tmp 6) rfl (w.heap.size+1) ([3,0,s.mr,c,0]++z16) rfl rfl 46 (0,0) ge1 ?_)|(refine b_ _ rfl (.tmp 4) (.tmp 43) rfl w.heap.size aO ([3,0,s.mr,c,0]++z16) rfl _ rfl rfl rfl 46 yo rfl ?_;intro u4 gu4 ru4 zu4));have mu4:=m1.own (‹World.grownBy u1 _ (some w.heap.size)›) (by omega);have ku4:=kk1.own (‹World.grownBy u1 _ (some w.heap.size)›) (bN _) hlt;exact jc results94 rfl w _ mb mo _ _ _ rfl rfl rfl ‹_› mu4 ku4
    ·have e:s.eZ c=(.zero,aO,false):=by unfold MS.eZ;rw[ai h91,ai (by simp[ht]),ai h47,ai h126]
     rw[e];clear e ht h91;go_enter func94,ntmps94;go_wp2_with fail;refine(Az c false _ HT.o).mono ?_;rintro e w1 ⟨rfl,rfl⟩;go_wp2_with (refine mV _ rfl (.tmp 9) (.tmp 8) rfl mb mo _ .zero rfl _ rfl rfl jb (h.alloc _) ?_);intro u1 m1 k1 z1;have yo:u1.heap[w.heap.size]? =some (.cells (aA aO) 46 (0,0)):=(k1.block _ (by simp) (by omega)).trans (bV _ _);go_wp2_with (refine b_ _ rfl (.tmp 4) (.tmp 44) rfl w.heap.size aO aO rfl _ rfl rfl rfl 46 yo rfl ?_);intro v1 kU kI yV;have mv:=m1.own kI (by omega);have kv:=((k0 _).trans k1).own kI (bN _) hlt;go_wp2_with fail;exact jc results94 rfl w v1 mb mo _ _ _ rfl rfl rfl kU mv kv
end Go.Proofs.YtheibfffilomcaaGreatDoor
