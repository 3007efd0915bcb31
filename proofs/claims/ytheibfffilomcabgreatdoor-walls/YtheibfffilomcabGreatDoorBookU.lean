import Derived.Test.YtheibfffilomcabGreatDoorEvnU
import Derived.Test.YtheibfffilomcabGreatDoorMwaU
import Derived.StillTail
import Derived.StillTactics
import Derived.Deep.QuietTactic
import Derived.BigQuiet
set_option linter.all false
set_option maxRecDepth 100000
set_option maxHeartbeats 2000000
namespace Go.Proofs.YtheibfffilomcabGreatDoor
open Go.RowKit Go.Proofs.Tryz
variable {w:World} {s:MS} {mb mo:Nat} {a:Act} {ops:Array Oper} {rest:List Oper}
theorem Km.set(j:Nat)(x:Value)(hj:j<19):Km mb mo w (w.setCell ⟨mb,mo+j,none⟩ x):=by refine⟨rfl,rfl,rfl,by simp[World.setCell],fun k _ hn=>yn _ _ _ _ hn,fun o ho=>bA _ _ _ _ _ (by omega),fun o=>?_⟩;simp
theorem iD.set{s':MS}(h:iD w mb mo s)(j:Nat)(x:Int)(hj:j<19)(hl:s'.l=s.l.set j x)(hp:s'.ps.length=16):iD (w.setCell ⟨mb,mo+j,none⟩ (.int .i64 x)) mb mo s':=by
 refine⟨hp,fun i v hv=>?_,fun i hi=>?_⟩
 ·rw[hl]at hv;have hlen:=h.Sz;have hi:i<19:=by have:=(ja.1 hv).1;simp[jV,hlen]at this;exact this
  by_cases hij:j=i
  ·subst hij;have hv':(jV (s.l.set j x))[j]? =some (.int .i64 x):=by rw[uG _ _ (by simp[hlen];exact hj)];simp[List.getD,hlen,hj]
   rw[hv']at hv;cases hv;exact AJ _ _ _ (h.at j hj)
  ·rw[bA _ _ _ _ _ (by omega)];have:(jV (s.l.set j x))[i]? =(jV s.l)[i]? :=by simp only[jV,sH,List.getElem?_set_ne hij]
   rw[this]at hv;exact h.ZN i v hv
 ·simp only[World.frozen?_setCell];exact h.fr i hi
theorem iD.ZW(h:iD w mb mo s)(k:Nat)(x:Int)(hk:k<16):iD (w.setCell ⟨mb,mo+3+k,none⟩ (.int .i64 x)) mb mo ⟨s.md,s.mr,s.ct,s.ps.set k x⟩:=by have:=h.set (s':=⟨s.md,s.mr,s.ct,s.ps.set k x⟩) (3+k) x (by omega) (by simp[MS.l,show 3+k=k+1+1+1 by omega]) (by simp[h.len]);rw[←Nat.add_assoc]at this;exact this
theorem iD.ZU(h:iD w mb mo s)(x:Int):iD (w.setCell ⟨mb,mo+2,none⟩ (.int .i64 x)) mb mo ⟨s.md,s.mr,x,s.ps⟩:=
 h.set (s':=⟨s.md,s.mr,x,s.ps⟩) 2 x (by omega) rfl h.len
theorem iD.ZX(h:iD w mb mo s)(x:Int):iD (w.setCell ⟨mb,mo+1,none⟩ (.int .i64 x)) mb mo ⟨s.md,x,s.ct,s.ps⟩:=
 h.set (s':=⟨s.md,x,s.ct,s.ps⟩) 1 x (by omega) rfl h.len
theorem iD.ZV(h:iD w mb mo s)(x:Int):iD (w.setCell ⟨mb,mo,none⟩ (.int .i64 x)) mb mo ⟨x,s.mr,s.ct,s.ps⟩:=
 h.set (s':=⟨x,s.mr,s.ct,s.ps⟩) 0 x (by omega) rfl h.len
theorem iD.drew(h:iD w mb mo s):iD w.drew mb mo s:=h.kept rfl
theorem Km.drew{u:World}(h:Km mb mo w u):Km mb mo w u.drew:=⟨h.os,h.tape,h.output,h.size,h.block,h.cell,h.frozen⟩
theorem xe(mb mo:Nat)(s:MS)(w:World)(h:iD w mb mo s)(h0:0≤s.ct)(h1:s.ct≤17):
 Calls prog 161 #[.pointer (some ⟨mb,mo,none⟩)] w fun e w'=>e= .returned (.tuple #[])∧iD w' mb mo s.gD∧Km mb mo w w':=by
 obtain⟨k,hk⟩:=Int.eq_ofNat_of_zero_le h0;have c2:=h.c2;have f2:=h.fr 2 (by omega);rw[hk]at c2;by_cases hlt:k<16
 ·have cp:=h.cp k hlt;have fp:=h.fr (3+k) (by omega);rw[←Nat.add_assoc]at fp;have hmin:min ((k:Int)+1) 17=(k:Int)+1:=by omega
  have e:s.gD=⟨s.md,s.mr,(k:Int)+1,s.ps.set k (-1)⟩:=by unfold MS.gD;rw[hk,aS (by omega),hmin];rfl
  have i1:(k:Int)<16:=by omega
  have R:iD ((w.setCell ⟨mb,mo+3+k,none⟩ (.int .i64 (-1))).setCell ⟨mb,mo+2,none⟩ (.int .i64 ((k:Int)+1))) mb mo s.gD:=by rw[e];exact(h.ZW k (-1) hlt).ZU _
  have K:Km mb mo w ((w.setCell ⟨mb,mo+3+k,none⟩ (.int .i64 (-1))).setCell ⟨mb,mo+2,none⟩ (.int .i64 ((k:Int)+1))):=by have k1:Km mb mo w (w.setCell ⟨mb,mo+(3+k),none⟩ (.int .i64 (-1))):=Km.set (3+k) _ (by omega);rw[←Nat.add_assoc]at k1;exact k1.trans (Km.set 2 _ (by omega))
  clear e hk;go_enter func161,ntmps161;go_wp2_with fail;go_region
  all_goals go_wp2_with fail
  all_goals go_end0
  all_goals exact⟨rfl,R.drew,K.drew⟩
 ·have hmin:min ((k:Int)+1) 17=17:=by omega
  have e:s.gD=⟨s.md,s.mr,17,s.ps⟩:=by unfold MS.gD;rw[hk,aG (by omega),hmin]
  have i1:¬(k:Int)<16:=by omega
  have R:iD (w.setCell ⟨mb,mo+2,none⟩ (.int .i64 17)) mb mo s.gD:=by rw[e];exact h.ZU _
  have K:Km mb mo w (w.setCell ⟨mb,mo+2,none⟩ (.int .i64 17)):=Km.set 2 _ (by omega);have afv:k≤17:=by omega
  clear e hk;rcases(show k=16∨k=17 by omega)with rfl|rfl
  ·clear i1 hmin;go_enter func161,ntmps161;go_wp2_with fail;go_end0;exact⟨rfl,R,K⟩
  ·clear i1 hmin;go_enter func161,ntmps161;go_wp2_with fail;go_end0;exact⟨rfl,R,K⟩
theorem CB(mb mo:Nat)(s:MS)(d:Int)(w:World)(h:iD w mb mo s)(hs:s.ok)(h1:1≤s.ct)(hd0:0≤d)(hd1:d≤9):
 Calls prog 163 #[.pointer (some ⟨mb,mo,none⟩),.int .i64 d] w fun e w'=>e= .returned (.tuple #[])∧iD w' mb mo (s.jk d)∧Km mb mo w w':=by
 have c2:=h.c2;have h17:=hs.c1;by_cases hgt:16<s.ct
 ·have e:s.jk d=s:=by simp[MS.jk,hgt]
  rw[e];clear e;go_enter func163,ntmps163;go_wp2_with fail;refine gL (lF rfl _ _ _) rfl ?_;exact⟨rfl,h,Km.refl _ _ _⟩
 ·obtain⟨k,hk⟩:=Int.eq_ofNat_of_zero_le (show 0≤s.ct-1 by omega);have hk1:s.ct=(k:Int)+1:=by omega
  have Lb:k<16:=by omega
  have cp:=h.cp k Lb;have fp:=h.fr (3+k) (by omega);rw[←Nat.add_assoc]at fp;have hx:=J4 hs.p k;have e:s.jk d=⟨s.md,s.mr,s.ct,s.ps.set k (min (max (s.ps.getD k 0) 0*10+d) 65535)⟩:=by unfold MS.jk;rw[aG hgt,hk];rfl
  have R:iD (w.setCell ⟨mb,mo+3+k,none⟩ (.int .i64 (min (max (s.ps.getD k 0) 0*10+d) 65535))) mb mo (s.jk d):=by rw[e];exact h.ZW k _ Lb
  have K:Km mb mo w (w.setCell ⟨mb,mo+3+k,none⟩ (.int .i64 (min (max (s.ps.getD k 0) 0*10+d) 65535))):=by have k1:Km mb mo w (w.setCell ⟨mb,mo+(3+k),none⟩ (.int .i64 (min (max (s.ps.getD k 0) 0*10+d) 65535))):=Km.set (3+k) _ (by omega);rw[←Nat.add_assoc]at k1;exact k1
  rw[hk1]at c2;have i1:(k:Int)<16:=by omega
  have hg2:¬16<(k:Int)+1:=by omega
  generalize s.ps.getD k 0=x at*;clear e hk hk1 hgt h17;rcases(show x<0∨x=0∨0<x by omega)with hx0|rfl|hx0
  ·have ez:min (max x 0*10+d) 65535=d:=by omega
   rw[ez]at R K;clear ez;have hd:d≤65535:=by omega
   go_enter func163,ntmps163;go_wp2_with fail;go_region
   all_goals go_wp2_with fail
   all_goals go_region
   all_goals go_wp2_with fail
   all_goals go_end0
   all_goals exact⟨rfl,R.kept rfl,K.trans ⟨rfl,rfl,rfl,bE _,fun _ _ _=>rfl,fun _ _=>rfl,fun _=>rfl⟩⟩
  ·have ez:min (max 0 0*10+d) 65535=d:=by omega
   rw[ez]at R K;clear ez;have hd:d≤65535:=by omega
   go_enter func163,ntmps163;go_wp2_with fail;go_region
   all_goals go_wp2_with fail
   all_goals go_region
   all_goals go_wp2_with fail
   all_goals go_end0
   all_goals exact⟨rfl,R.kept rfl,K.trans ⟨rfl,rfl,rfl,bE _,fun _ _ _=>rfl,fun _ _=>rfl,fun _=>rfl⟩⟩
  ·have hx1:0≤x:=by omega
   by_cases hbig:x*10+d≤65535
   ·have ez:min (max x 0*10+d) 65535=x*10+d:=by omega
    rw[ez]at R K;clear ez;go_enter func163,ntmps163;go_wp2_with fail;go_region
    all_goals go_wp2_with fail
    all_goals go_region
    all_goals go_wp2_with fail
    all_goals go_end0
    all_goals exact⟨rfl,R.kept rfl,K.trans ⟨rfl,rfl,rfl,bE _,fun _ _ _=>rfl,fun _ _=>rfl,fun _=>rfl⟩⟩
   ·have ez:min (max x 0*10+d) 65535=65535:=by omega
    rw[ez]at R K;clear ez;go_enter func163,ntmps163;go_wp2_with fail;go_region
    all_goals go_wp2_with fail
    all_goals go_region
    all_goals go_wp2_with fail
    all_goals go_end0
    all_goals exact⟨rfl,R.kept rfl,K.trans ⟨rfl,rfl,rfl,bE _,fun _ _ _=>rfl,fun _ _=>rfl,fun _=>rfl⟩⟩
theorem Zf{l:List Int}(h:l.length=16):∃p0 p1 p2 p3 p4 p5 p6 p7 p8 p9 p10 p11 p12 p13 p14 p15,l=[p0,p1,p2,p3,p4,p5,p6,p7,p8,p9,p10,p11,p12,p13,p14,p15]:=by
 match l,h with
 | [p0,p1,p2,p3,p4,p5,p6,p7,p8,p9,p10,p11,p12,p13,p14,p15],_=>exact⟨_,_,_,_,_,_,_,_,_,_,_,_,_,_,_,_,rfl⟩
theorem mixed:prog.follows .mixedOrders=true:=by kernel_rfl
theorem wO{P:Program}{Q:Act→Prop}{o:Oper}(hgd:o.guard=none)(ty:TypeId)(x:Operand)(ho:o.op= .load ty x)(b off:Nat)(hx:a.eval x= .pointer (some ⟨b,off,none⟩))(cs:List Value)(d:TypeDesc)(hc:w.rangeAt b off cs)(hu:P.underlying ty=some d)(hd:d.isRow=true)(hi:(P.info? ty).map (·.size)=some cs.length)(h:wpStill P ops w Q rest (a.put o.dst (.agg cs.toArray))):wpStill P ops w Q (o::rest) a:=by
 refine wpStill_step fun K hK=>?_;have hw:Region.wanted o (yielded ops a.tmps)=true:=by simp[Region.wanted,hgd]
 rw[aS hw];unfold Oper.still execOp;simp only[ho,hx,Instr.loadAt,Instr.sureAddr,kN,qg,kM,run_loadVar_mid w b off ty cs d hc hu hd hi,Oper.stillUpon];exact⟨trivial,hK _ h⟩
theorem MG{g:Nat}{ev:List Int}{t:TypeId}(h:w.heap[g]? =some (.cells (aO ev) t (0,0))):w.there g 0 ev.length:=fun j hj=>by refine⟨?_,ou w g _ _ t h⟩;rw[dJ _ _ _ _ _ _ h];simp[aO,jV,hj]
theorem OB:(prog.info? 57).map (·.size)=some 16:=by kernel_rfl
theorem IB(mb mo:Nat)(s:MS)(f:Int)(w:World)(h:iD w mb mo s)(hs:s.ok)(h1:1≤s.ct):
 Calls prog 164 #[.pointer (some ⟨mb,mo,none⟩),.int .i64 f] w fun e w'=>e= .returned (.agg (aO (s.nP f)))∧Below w.heap.size w w':=by
 have c1:=h.c1;have c2:=h.c2;have hlt:=h.lt;have h17:=hs.c1;have rg:w.rangeAt mb (mo+3) (jV s.ps):=fun j v hv=>by
  have hj:j<16:=by have:=(ja.1 hv).1;simpa[jV,h.len]using this
  rw[uG _ _ (by rw[h.len];exact hj)]at hv;rw[h.cp j hj];exact hv
 obtain⟨p0,p1,p2,p3,p4,p5,p6,p7,p8,p9,p10,p11,p12,p13,p14,p15,hp⟩:=Zf h.len;have e:s.nP f=[4,0,s.mr,f,min s.ct 16,p0,p1,p2,p3,p4,p5,p6,p7,p8,p9,p10,p11,p12,p13,p14,p15]:=by unfold MS.nP;rw[hp];rfl
 rw[hp]at rg;have rg':w.rangeAt mb (mo+3) [.int .i64 p0,.int .i64 p1,.int .i64 p2,.int .i64 p3,.int .i64 p4,.int .i64 p5,.int .i64 p6,.int .i64 p7,.int .i64 p8,.int .i64 p9,.int .i64 p10,.int .i64 p11,.int .i64 p12,.int .i64 p13,.int .i64 p14,.int .i64 p15]:=rg;have HE:Hid _:=e;clear e rg hp;have hu:=underlying57;have hi:=OB;go_enter func164,ntmps164;go_wp2_with fail;generalize hW:w.alloc (Obj.cells #[.int .i64 0,.int .i64 0,.int .i64 0,.int .i64 0,.int .i64 0,.int .i64 0,.int .i64 0,.int .i64 0,.int .i64 0,.int .i64 0,.int .i64 0,.int .i64 0,.int .i64 0,.int .i64 0,.int .i64 0,.int .i64 0,.int .i64 0,.int .i64 0,.int .i64 0,.int .i64 0,.int .i64 0] 92)=W;have V8:W=w.alloc (.cells (aO bG) 92):=hW.symm;have d1:W.cell? ⟨mb,mo+1,none⟩=some (.int .i64 s.mr):=by rw[V8];exact(eT (h_ _ _ _ hlt)).trans c1
 have d2:W.cell? ⟨mb,mo+2,none⟩=some (.int .i64 s.ct):=by rw[V8];exact(eT (h_ _ _ _ hlt)).trans c2
 have d3:W.rangeAt mb (mo+3) [.int .i64 p0,.int .i64 p1,.int .i64 p2,.int .i64 p3,.int .i64 p4,.int .i64 p5,.int .i64 p6,.int .i64 p7,.int .i64 p8,.int .i64 p9,.int .i64 p10,.int .i64 p11,.int .i64 p12,.int .i64 p13,.int .i64 p14,.int .i64 p15]:=by rw[V8];exact World.rangeAt_alloc rg' _
 have hg:W.heap[w.heap.size]? =some (.cells (aO bG) 92 (0,0)):=by rw[V8];exact bJ _ _
 have d4:W.there w.heap.size 0 21:=MG hg;have bl0:Below w.heap.size w W:=by rw[V8];exact(dF _ _).alloc (bE _) _
 have HG:Hid _:=hg;clear hW V8 rg' c1 c2 hg;clear hu hi;have hmin:min s.ct 16=if 16<s.ct then 16 else s.ct:=by split<;>omega
 have ev:s.nP f=[4,0,s.mr,f,if 16<s.ct then 16 else s.ct,p0,p1,p2,p3,p4,p5,p6,p7,p8,p9,p10,p11,p12,p13,p14,p15]:=by rw[HE.o,hmin]
 have HV:Hid _:=ev;clear ev hmin;refine wp_region_still_tail 15 mixed (by kernel_rfl) ?_;simp only[List.take_succ_cons,List.take_zero,List.drop_succ_cons,List.drop_zero]
 iterate 13 still_step
 refine wO rfl 57 (.tmp 17) rfl mb (mo+3) rfl [.int .i64 p0,.int .i64 p1,.int .i64 p2,.int .i64 p3,.int .i64 p4,.int .i64 p5,.int .i64 p6,.int .i64 p7,.int .i64 p8,.int .i64 p9,.int .i64 p10,.int .i64 p11,.int .i64 p12,.int .i64 p13,.int .i64 p14,.int .i64 p15] _ d3 underlying57 rfl OB ?_
 still_step
 refine wpStill_nil ?_;refine cZ _ rfl (.tmp 4) (.tmp 19) rfl w.heap.size bG [4,0,s.mr,f,if 16<s.ct then 16 else s.ct,p0,p1,p2,p3,p4,p5,p6,p7,p8,p9,p10,p11,p12,p13,p14,p15] rfl _ rfl rfl rfl 92 HG.o rfl ?_;intro u hg hgr hz;have bl1:Below w.heap.size w u:=(bl0.drew).grown hgr bl0.size (fun k e=>by simp at e;omega);clear d1 d2 d3 d4;go_wp2_with fail
 all_goals refine gL (Ff results164 _ u w.heap.size _ rfl 92 (0,0) rfl hg) rfl ?_
 all_goals rw[HV.o]
 all_goals exact⟨rfl,bl1⟩
theorem fE{fn:Func}{p q:Tmp}(hres:fn.results= #[.cell p 92,.tmp q])(hd:a.defers=[])(w u:World)(mb mo:Nat)(s':MS)(ev:List Int)(b:Bool)(hev:ev.length=21)(hp:a.tmps.getD p undef= .pointer (some ⟨w.heap.size,0,none⟩))(hq:a.tmps.getD q undef= .bool b)(hg:u.heap[w.heap.size]? =some (.cells (aO ev) 92 (0,0)))(hm:iD u mb mo s')(hk:Km mb mo w u):
 bodyPost prog fn (fun e w'=>e= .returned (.tuple #[.agg (aO ev),.bool b])∧iD w' mb mo s'∧Km mb mo w w') .ret a u:=
 gL (Il hres a.tmps u w.heap.size ev hev 92 (0,0) hp hg) hd ⟨by rw[hq],hm,hk⟩
theorem xH(h:s.ps.length=16)(c:Int):(s.cO c).2.1.length=21:=by
 unfold MS.cO
 repeat' split
 all_goals first|rfl|simp[MS.nP,h]
theorem F7(s:MS)(c:Int):(s.dz c).2.1.length=21:=by
 unfold MS.dz
 repeat' split
 all_goals rfl
theorem rF(h:s.ps.length=16)(c:Int):(s.bT c).2.1.length=21:=by
 unfold MS.bT
 repeat' split
 all_goals first|rfl|exact F7 s c|exact xH h c|exact xH (s:=⟨3,s.mr,s.ct,s.ps⟩) h c
theorem wL(h:s.ps.length=16)(c:Int):(s.take c).2.1.length=21:=by
 unfold MS.take
 repeat' split
 all_goals first|rfl|exact rF h c
theorem ve(mb mo:Nat)(s:MS)(c:Int)(w:World)(h:iD w mb mo s)(hs:s.ok)(hc0:0≤c)(hc1:c≤10000000)(h1:1≤s.ct):
 Calls prog 119 #[.pointer (some ⟨mb,mo,none⟩),.int .i64 c] w fun e w'=>e= .returned (.tuple #[.agg (aO (s.cO c).2.1),.bool (s.cO c).2.2])∧iD w' mb mo (s.cO c).1∧Km mb mo w w':=by
 have hlt:=h.lt;have k0:∀o,Km mb mo w (w.alloc o):=fun o=>(Km.refl mb mo w).alloc o hlt;by_cases hd:48≤c∧c≤57
 ·obtain⟨hd0,hd1⟩:=hd;have e:s.cO c=(s.jk (c-48),bG,false):=by simp[MS.cO,hd0,hd1]
  rw[e];clear e;go_enter func119,ntmps119;go_wp2_with fail;refine(CB mb mo s (c-48) _ (h.alloc _) hs h1 (by omega) (by omega)).mono ?_;rintro e u1 ⟨rfl,Rm,OL⟩;have uE:u1.heap[w.heap.size]? =some (.cells (aO bG) 92 (0,0)):=(OL.block _ (by simp) (by omega)).trans (bJ _ _);go_wp2_with (refine cZ _ rfl (.tmp 4) (.tmp 36) rfl w.heap.size bG bG rfl _ rfl ?q1 rfl 92 uE rfl ?_)
  case q1=>rfl
  intro u2 DF Bq zu2;have Zv:=Rm.own Bq (by omega);have Ze:=((k0 _).trans OL).own Bq (bE _) hlt;go_wp2_with fail;exact fE results119 rfl w u2 mb mo _ _ _ rfl rfl rfl DF (Zv) (Ze)
 ·have hdd:(decide (48≤c)&&decide (c≤57))=false:=by
   by_cases a:48≤c
   ·have:¬c≤57:=fun b=>hd ⟨a,b⟩;simp[this]
   ·simp[a]
  have hnd:c<48∨57<c:=by omega
  by_cases h59:c=59
  ·have e:s.cO c=(s.gD,bG,false):=by simp[MS.cO,h59]
   rw[e];clear e hd hdd hnd;subst h59;go_enter func119,ntmps119;go_wp2_with fail;refine(xe mb mo s _ (h.alloc _) hs.c0 hs.c1).mono ?_;rintro e u1 ⟨rfl,Rm,OL⟩;have uE:u1.heap[w.heap.size]? =some (.cells (aO bG) 92 (0,0)):=(OL.block _ (by simp) (by omega)).trans (bJ _ _);go_wp2_with (refine cZ _ rfl (.tmp 4) (.tmp 36) rfl w.heap.size bG bG rfl _ rfl ?q2 rfl 92 uE rfl ?_)
   case q2=>rfl
   intro u2 DF Bq zu2;have Zv:=Rm.own Bq (by omega);have Ze:=((k0 _).trans OL).own Bq (bE _) hlt;go_wp2_with fail;exact fE results119 rfl w u2 mb mo _ _ _ rfl rfl rfl DF (Zv) (Ze)
  ·have b59:(c==59)=false:=by simp[h59]
   cases hf:iF c with
   |true=>
    have e:s.cO c=(.zero,s.nP c,true):=by unfold MS.cO;rw[aG hd,aG h59,aS hf]
    rw[e];have HF:Hid _:=hf;have gM:(s.nP c).length=21:=by simp[MS.nP,hs.len]
    clear e hd hf h59;rcases hnd with hnd|hnd
    all_goals
     go_enter func119,ntmps119;go_wp2_with fail;refine(uB c true _ HF.o).mono ?_;rintro e w1 ⟨rfl,rfl⟩;go_wp2_with fail;refine(IB mb mo s c _ (h.alloc _) hs h1).mono ?_;rintro e u1 ⟨rfl,b1⟩;have hz1:w.heap.size<u1.heap.size:=by have:=b1.size;simp at this;omega
     have m1:iD u1 mb mo s:=(h.alloc _).kept (b1.block mb (by simp;omega));have g1:u1.heap[w.heap.size]? =some (.cells (aO bG) 92 (0,0)):=(b1.block w.heap.size (by simp)).trans (bJ _ _);have k1:Km mb mo w u1:=(k0 _).trans (Km.of_below b1 (by simp;omega));clear b1;go_wp2_with (refine cZ _ rfl (.tmp 6) (.tmp 31) rfl u1.heap.size bG (s.nP c) rfl _ rfl rfl gM 92 (bJ u1 _) rfl ?_);intro u2 DF Bq zu2;have m2:=(m1.alloc _).own Bq (by omega);have g2:=(Bq.block w.heap.size (by simp;omega) (by simp;omega)).trans ((h_ u1 _ _ hz1).trans g1);have k2:=(k1.alloc _ hlt).own Bq (by omega) hlt;have hz2:u1.heap.size<u2.heap.size:=by have:=Bq.size;simp at this;omega
     clear m1 g1 k1 Bq;go_wp2_with (refine jm _ rfl (.tmp 34) (.tmp 33) rfl mb mo s .zero rfl _ rfl rfl fq m2 ?_);intro u3 m3 k3 z3;have g3:=(k3.block w.heap.size (by omega) (by omega)).trans g2;have ge3:=(k3.block u1.heap.size (by omega) (by omega)).trans DF;have kk3:=k2.trans k3;clear m2 g2 k2 k3 DF;go_wp2_with (first|(refine jh _ rfl (.tmp 6) rfl u1.heap.size (s.nP c) rfl gM 92 (0,0) ge3 ?_)|(refine cZ _ rfl (.tmp 4) (.tmp 35) rfl w.heap.size bG (s.nP c) rfl _ rfl rfl gM 92 g3 rfl ?_;intro u4 gu4 ru4 zu4));have mu4:=m3.own (‹World.grownBy u3 _ (some w.heap.size)›) (by omega);have ku4:=kk3.own (‹World.grownBy u3 _ (some w.heap.size)›) (bE _) hlt;exact fE results119 rfl w _ mb mo _ _ _ gM rfl rfl ‹_› mu4 ku4
   |false=>
    have e:s.cO c=(⟨4,0,0,z16⟩,bG,false):=by unfold MS.cO;rw[aG hd,aG h59,aG (by simp[hf])]
    rw[e];have HF:Hid _:=hf;clear e hd hf h59;rcases hnd with hnd|hnd
    all_goals
     go_enter func119,ntmps119;go_wp2_with fail;refine(uB c false _ HF.o).mono ?_;rintro e w1 ⟨rfl,rfl⟩;go_wp2_with (refine jm _ rfl (.tmp 9) (.tmp 8) rfl mb mo s ⟨4,0,0,z16⟩ rfl _ rfl rfl fq (h.alloc _) ?_);intro u1 m1 k1 z1;have g1:u1.heap[w.heap.size]? =some (.cells (aO bG) 92 (0,0)):=(k1.block _ (by simp) (by omega)).trans (bJ _ _);have Zd:=(k0 _).trans k1;clear k1;go_wp2_with (refine cZ _ rfl (.tmp 4) (.tmp 36) rfl w.heap.size bG bG rfl _ rfl rfl rfl 92 g1 rfl ?_);intro u2 DF Bq zu2;have Zv:=m1.own Bq (by omega);have Ze:=Zd.own Bq (bE _) hlt;go_wp2_with fail;exact fE results119 rfl w u2 mb mo _ _ _ rfl rfl rfl DF Zv Ze
theorem vD{o:Oper}{Q:Exit→Act→World→Prop}(u:World)(hgd:o.guard=none)(ty:TypeId)(hsz:(prog.info? ty).map (·.size)=some 1)(x y:Operand)(ho:o.op= .store ty x y)(mb mo j:Nat)(hj:j<19)(s s':MS)(c:Int)(hx:a.eval x= .pointer (some ⟨mb,mo+j,none⟩))(hy:a.eval y= .int .i64 c)(hm:iD u mb mo s)(hm':iD (u.setCell ⟨mb,mo+j,none⟩ (.int .i64 c)) mb mo s')(h:∀u',iD u' mb mo s'→Km mb mo u u'→u'.heap.size=u.heap.size→wpList prog ops Q rest (a.put o.dst undef) u'):wpList prog ops Q (o::rest) a u:=by
 have hc:=hm.at j hj;have hf:=hm.fr j hj;refine sI hgd fun K hK=>?_;have R:=hK _ _ (h _ hm' (Km.set j _ hj) (by simp[World.setCell]));have hs:(sizeOf ty).run prog u= .ok 1 u:=by
  cases hq:prog.info? ty with
  |none=>simp[hq]at hsz
  |some i=>
   have:i.size=1:=by simpa[hq]using hsz
   simp[sizeOf,typeInfo,hq,this]
 unfold Oper.wp execOp;simp only[ho,hx,hy];go_simp;exact R
theorem SH:(prog.info? 3).map (·.size)=some 1:=by kernel_rfl
theorem Pw:(prog.info? 56).map (·.size)=some 1:=by kernel_rfl
theorem Sw(w:World)(a b:Obj):((w.alloc a).alloc b).heap[w.heap.size]? =some a∧((w.alloc a).alloc b).heap[w.heap.size+1]? =some b:=by
 have z1:(w.alloc a).heap.size=w.heap.size+1:=by simp
 exact⟨(h_ _ b _ (by omega)).trans (bJ w a),z1▸bJ (w.alloc a) b⟩
theorem Dr(mb mo:Nat)(s:MS)(c:Int)(w:World)(h:iD w mb mo s)(hc0:32≤c):
 Calls prog 117 #[.pointer (some ⟨mb,mo,none⟩),.int .i64 c] w fun e w'=>e= .returned (.tuple #[.agg (aO (s.dz c).2.1),.bool (s.dz c).2.2])∧iD w' mb mo (s.dz c).1∧Km mb mo w w':=by
 have hlt:=h.lt;have k0:∀o,Km mb mo w (w.alloc o):=fun o=>(Km.refl mb mo w).alloc o hlt;by_cases h91:c=91
 ·have e:s.dz c=(MS.gD ⟨2,0,0,z16⟩,bG,false):=by simp[MS.dz,h91]
  rw[e];clear e;subst h91;go_enter func117,ntmps117;go_wp2_with (refine jm _ rfl (.tmp 15) (.tmp 14) rfl mb mo _ ⟨2,0,0,z16⟩ rfl _ rfl rfl fq (h.alloc _) ?_);intro u1 m1 k1 z1;go_wp2_with fail;refine(xe mb mo ⟨2,0,0,z16⟩ _ m1 (by decide) (by decide)).mono ?_;rintro e u2 ⟨rfl,m2,k2⟩;have k12:=k1.trans k2;have DF:u2.heap[w.heap.size]? =some (.cells (aO bG) 92 (0,0)):=(k12.block _ (by simp) (by omega)).trans (bJ _ _);go_wp2_with (refine cZ _ rfl (.tmp 4) (.tmp 44) rfl w.heap.size bG bG rfl _ rfl rfl rfl 92 DF rfl ?_);intro v1 qo jY DJ;have mv:=m2.own jY (by omega);have kv:=((k0 _).trans k12).own jY (bE _) hlt;go_wp2_with fail;exact fE results117 rfl w v1 mb mo _ _ _ rfl rfl rfl qo mv kv
 ·have b91:(c==91)=false:=by simp[h91]
  cases ht:jZ c with
  |true=>
   have e:s.dz c=(⟨5,0,0,z16⟩,bG,false):=by unfold MS.dz;rw[aG h91,aS ht]
   rw[e];have HT:Hid _:=ht;clear e ht h91;go_enter func117,ntmps117;go_wp2_with fail;refine(yf c true _ HT.o).mono ?_;rintro e w1 ⟨rfl,rfl⟩;go_wp2_with (refine jm _ rfl (.tmp 23) (.tmp 22) rfl mb mo _ ⟨5,0,0,z16⟩ rfl _ rfl rfl fq (h.alloc _) ?_);intro u1 m1 k1 z1;have uE:u1.heap[w.heap.size]? =some (.cells (aO bG) 92 (0,0)):=(k1.block _ (by simp) (by omega)).trans (bJ _ _);go_wp2_with (refine cZ _ rfl (.tmp 4) (.tmp 44) rfl w.heap.size bG bG rfl _ rfl rfl rfl 92 uE rfl ?_);intro v1 qo jY DJ;have mv:=m1.own jY (by omega);have kv:=((k0 _).trans k1).own jY (bE _) hlt;go_wp2_with fail;exact fE results117 rfl w v1 mb mo _ _ _ rfl rfl rfl qo mv kv
  |false=>
   have HT:Hid _:=ht;by_cases h47:c≤47
   ·have e:s.dz c=(⟨s.md,c,s.ct,s.ps⟩,bG,false):=by unfold MS.dz;rw[aG h91,aG (by simp[ht]),aS h47]
    rw[e];clear e ht h91;go_enter func117,ntmps117;go_wp2_with fail;refine(yf c false _ HT.o).mono ?_;rintro e w1 ⟨rfl,rfl⟩;go_wp2_with (refine vD _ rfl 3 SH (.tmp 30) (.tmp 28) rfl mb mo 1 (by omega) s ⟨s.md,c,s.ct,s.ps⟩ c rfl rfl (h.alloc _) ((h.alloc _).ZX c) ?_);intro u1 m1 k1 z1;have uE:u1.heap[w.heap.size]? =some (.cells (aO bG) 92 (0,0)):=(k1.block _ (by simp) (by omega)).trans (bJ _ _);go_wp2_with (refine cZ _ rfl (.tmp 4) (.tmp 44) rfl w.heap.size bG bG rfl _ rfl rfl rfl 92 uE rfl ?_);intro v1 qo jY DJ;have mv:=m1.own jY (by omega);have kv:=((k0 _).trans k1).own jY (bE _) hlt;go_wp2_with fail;exact fE results117 rfl w v1 mb mo _ _ _ rfl rfl rfl qo mv kv
   ·by_cases h126:c≤126
    ·have e:s.dz c=(.zero,[3,0,s.mr,c,0]++z16,true):=by unfold MS.dz;rw[aG h91,aG (by simp[ht]),aG h47,aS h126]
     rw[e];clear e ht h91;have c1:=h.c1;go_enter func117,ntmps117;go_wp2_with fail;refine(yf c false _ HT.o).mono ?_;rintro e w1 ⟨rfl,rfl⟩;go_wp2_with (refine cZ _ rfl (.tmp 6) (.tmp 39) rfl (w.heap.size+1) bG ([3,0,s.mr,c,0]++z16) rfl _ rfl rfl rfl 92 (Sw w _ _).2 rfl ?_);intro u0 gu0 ZT zu0;have m0:=((h.alloc _).alloc _).own ZT (by omega);have g0:=(ZT.block w.heap.size (by simp;omega) (by simp)).trans (Sw w _ _).1;have kk0:=((k0 _).alloc _ hlt).own ZT (by omega) hlt;have zz0:w.heap.size+1<u0.heap.size:=by have:=ZT.size;simp at this;omega
     clear ZT c1;go_wp2_with (refine jm _ rfl (.tmp 42) (.tmp 41) rfl mb mo _ .zero rfl _ rfl rfl fq m0 ?_);intro u1 m1 k1 z1;have uE:=(k1.block w.heap.size (by omega) (by omega)).trans g0;have ge1:=(k1.block (w.heap.size+1) (by omega) (by omega)).trans gu0;have Zd:=kk0.trans k1;clear m0 g0 kk0 k1 gu0;go_wp2_with (first|(refine jh _ rfl (.tmp 6) rfl (w.heap.size+1) ([3,0,s.mr,c,0]++z16) rfl rfl 92 (0,0) ge1 ?_)|(refine cZ _ rfl (.tmp 4) (.tmp 43) rfl w.heap.size bG ([3,0,s.mr,c,0]++z16) rfl _ rfl rfl rfl 92 uE rfl ?_;intro u4 gu4 ru4 zu4));have mu4:=m1.own (‹World.grownBy u1 _ (some w.heap.size)›) (by omega);have ku4:=Zd.own (‹World.grownBy u1 _ (some w.heap.size)›) (bE _) hlt;exact fE results117 rfl w _ mb mo _ _ _ rfl rfl rfl ‹_› mu4 ku4
    ·have e:s.dz c=(.zero,bG,false):=by unfold MS.dz;rw[aG h91,aG (by simp[ht]),aG h47,aG h126]
     rw[e];clear e ht h91;go_enter func117,ntmps117;go_wp2_with fail;refine(yf c false _ HT.o).mono ?_;rintro e w1 ⟨rfl,rfl⟩;go_wp2_with (refine jm _ rfl (.tmp 9) (.tmp 8) rfl mb mo _ .zero rfl _ rfl rfl fq (h.alloc _) ?_);intro u1 m1 k1 z1;have uE:u1.heap[w.heap.size]? =some (.cells (aO bG) 92 (0,0)):=(k1.block _ (by simp) (by omega)).trans (bJ _ _);go_wp2_with (refine cZ _ rfl (.tmp 4) (.tmp 44) rfl w.heap.size bG bG rfl _ rfl rfl rfl 92 uE rfl ?_);intro v1 qo jY DJ;have mv:=m1.own jY (by omega);have kv:=((k0 _).trans k1).own jY (bE _) hlt;go_wp2_with fail;exact fE results117 rfl w v1 mb mo _ _ _ rfl rfl rfl qo mv kv
theorem Dt(mb mo:Nat)(s:MS)(c:Int)(w:World)(h:iD w mb mo s)(hs:s.ok)(hc0:32≤c)(hc1:c≤10000000):
 Calls prog 76 #[.pointer (some ⟨mb,mo,none⟩),.int .i64 c] w fun e w'=>e= .returned (.tuple #[.agg (aO (s.bT c).2.1),.bool (s.bT c).2.2])∧iD w' mb mo (s.bT c).1∧Km mb mo w w':=by
 have hlt:=h.lt;have k0:∀o,Km mb mo w (w.alloc o):=fun o=>(Km.refl mb mo w).alloc o hlt;have c0:=h.c0;have gM:=rF hs.len c;rcases(show s.md=0∨s.md=1∨s.md=2∨s.md=3∨s.md=4∨s.md=5 by have:=hs.m0;have:=hs.m5;omega)with hm|hm|hm|hm|hm|hm
 ·have e:s.bT c=(s,[1,c,0,0,0]++z16,true):=by simp[MS.bT,hm]
  have b0:(s.md==0)=true:=by simp[hm]
  have b1:(s.md==1)=false:=by simp[hm]
  have b2:(s.md==2)=false:=by simp[hm]
  have b3:(s.md==3)=false:=by simp[hm]
  have b4:(s.md==4)=false:=by simp[hm]
  rw[e];clear e gM hm;go_enter func76,ntmps76;go_wp2_with (refine cZ _ rfl (.tmp 4) (.tmp 21) rfl w.heap.size bG ([1,c,0,0,0]++z16) rfl _ rfl rfl rfl 92 (bJ w _) rfl ?_);intro v1 qo jY DJ;have mv:=(h.alloc _).own jY (by omega);have kv:=(k0 _).own jY (bE _) hlt;go_wp2_with fail;exact fE results76 rfl w v1 mb mo _ _ _ rfl rfl rfl qo mv kv
 ·have e:s.bT c=s.dz c:=by simp[MS.bT,hm]
  rw[e]at gM;have b0:(s.md==0)=false:=by simp[hm]
  have b1:(s.md==1)=true:=by simp[hm]
  have b2:(s.md==2)=false:=by simp[hm]
  have b3:(s.md==3)=false:=by simp[hm]
  have b4:(s.md==4)=false:=by simp[hm]
  rw[e];clear e hm;obtain⟨⟨S,EV,B⟩,hS⟩:∃x,s.dz c=x:=⟨_,rfl⟩;have HS:Hid _:=hS;rw[hS]at gM;rw[hS];clear hS;dsimp only at gM ⊢;go_enter func76,ntmps76;go_wp2_with fail;refine(Dr mb mo s c _ (h.alloc _) hc0).mono ?_;rw[HS.o];rintro e u1 ⟨rfl,m1,k1⟩;dsimp only at m1 ⊢;have uE:u1.heap[w.heap.size]? =some (.cells (aO bG) 92 (0,0)):=(k1.block _ (by simp) (by omega)).trans (bJ _ _);go_wp2_with (refine cZ _ rfl (.tmp 4) (.tmp 25) rfl w.heap.size bG EV rfl _ rfl rfl gM 92 uE rfl ?_);intro v1 qo jY DJ;have mv:=m1.own jY (by omega);have kv:=((k0 _).trans k1).own jY (bE _) hlt;go_wp2_with fail;exact fE results76 rfl w v1 mb mo _ _ _ gM rfl rfl qo mv kv
 ·have c1:=h.c1;have b0:(s.md==0)=false:=by simp[hm]
  have b1:(s.md==1)=false:=by simp[hm]
  have b2:(s.md==2)=true:=by simp[hm]
  have b3:(s.md==3)=false:=by simp[hm]
  have b4:(s.md==4)=false:=by simp[hm]
  cases hk:lJ c with
  |true=>
   have e:s.bT c=(⟨3,c,s.ct,s.ps⟩,bG,false):=by simp[MS.bT,hm,hk]
   rw[e];have HK:Hid _:=hk;clear e gM hm hk;go_enter func76,ntmps76;go_wp2_with (refine vD _ rfl 56 Pw (.tmp 29) _ rfl mb mo 0 (by omega) s ⟨3,s.mr,s.ct,s.ps⟩ 3 rfl rfl (h.alloc _) ((h.alloc _).ZV 3) ?_);intro u1 m1 k1 z1;go_wp2_with fail;refine(EL c true _ HK.o).mono ?_;rintro e w1 ⟨rfl,rfl⟩;go_wp2_with (refine vD _ rfl 3 SH (.tmp 35) (.tmp 33) rfl mb mo 1 (by omega) ⟨3,s.mr,s.ct,s.ps⟩ ⟨3,c,s.ct,s.ps⟩ c rfl rfl m1 (m1.ZX c) ?_);intro u2 m2 k2 z2;have k12:=k1.trans k2;have DF:u2.heap[w.heap.size]? =some (.cells (aO bG) 92 (0,0)):=(k12.block _ (by simp) (by omega)).trans (bJ _ _);go_wp2_with (refine cZ _ rfl (.tmp 4) (.tmp 36) rfl w.heap.size bG bG rfl _ rfl rfl rfl 92 DF rfl ?_);intro v1 qo jY DJ;have mv:=m2.own jY (by omega);have kv:=((k0 _).trans k12).own jY (bE _) hlt;go_wp2_with fail;exact fE results76 rfl w v1 mb mo _ _ _ rfl rfl rfl qo mv kv
  |false=>
   have e:s.bT c=MS.cO ⟨3,s.mr,s.ct,s.ps⟩ c:=by simp[MS.bT,hm,hk]
   have hs3:=hs.third hm hs.r0 hs.r1;have hct:=hs.c2 (Or.inl hm);rw[e]at gM;rw[e];have HK:Hid _:=hk;clear e hm hk;obtain⟨⟨S,EV,B⟩,hS⟩:∃x,MS.cO ⟨3,s.mr,s.ct,s.ps⟩ c=x:=⟨_,rfl⟩;have HS:Hid _:=hS;rw[hS]at gM;rw[hS];clear hS;dsimp only at gM ⊢;go_enter func76,ntmps76;go_wp2_with (refine vD _ rfl 56 Pw (.tmp 29) _ rfl mb mo 0 (by omega) s ⟨3,s.mr,s.ct,s.ps⟩ 3 rfl rfl (h.alloc _) ((h.alloc _).ZV 3) ?_);intro u0 m0 kk0 z0;go_wp2_with fail;refine(EL c false _ HK.o).mono ?_;rintro e w1 ⟨rfl,rfl⟩;go_wp2_with fail;refine(ve mb mo ⟨3,s.mr,s.ct,s.ps⟩ c _ m0 hs3 (by omega) hc1 hct).mono ?_;rw[HS.o];rintro e u1 ⟨rfl,m1,Zd⟩;dsimp only at m1 ⊢;have k1:=kk0.trans Zd;have uE:u1.heap[w.heap.size]? =some (.cells (aO bG) 92 (0,0)):=(k1.block _ (by simp) (by omega)).trans (bJ _ _);go_wp2_with (refine cZ _ rfl (.tmp 4) (.tmp 40) rfl w.heap.size bG EV rfl _ rfl rfl gM 92 uE rfl ?_);intro v1 qo jY DJ;have mv:=m1.own jY (by omega);have kv:=((k0 _).trans k1).own jY (bE _) hlt;go_wp2_with fail;exact fE results76 rfl w v1 mb mo _ _ _ gM rfl rfl qo mv kv
 ·have e:s.bT c=s.cO c:=by simp[MS.bT,hm]
  have hct:=hs.c2 (Or.inr hm);rw[e]at gM;have b0:(s.md==0)=false:=by simp[hm]
  have b1:(s.md==1)=false:=by simp[hm]
  have b2:(s.md==2)=false:=by simp[hm]
  have b3:(s.md==3)=true:=by simp[hm]
  have b4:(s.md==4)=false:=by simp[hm]
  rw[e];clear e hm;obtain⟨⟨S,EV,B⟩,hS⟩:∃x,s.cO c=x:=⟨_,rfl⟩;have HS:Hid _:=hS;rw[hS]at gM;rw[hS];clear hS;dsimp only at gM ⊢;go_enter func76,ntmps76;go_wp2_with fail;refine(ve mb mo s c _ (h.alloc _) hs (by omega) hc1 hct).mono ?_;rw[HS.o];rintro e u1 ⟨rfl,m1,k1⟩;dsimp only at m1 ⊢;have uE:u1.heap[w.heap.size]? =some (.cells (aO bG) 92 (0,0)):=(k1.block _ (by simp) (by omega)).trans (bJ _ _);go_wp2_with (refine cZ _ rfl (.tmp 4) (.tmp 40) rfl w.heap.size bG EV rfl _ rfl rfl gM 92 uE rfl ?_);intro v1 qo jY DJ;have mv:=m1.own jY (by omega);have kv:=((k0 _).trans k1).own jY (bE _) hlt;go_wp2_with fail;exact fE results76 rfl w v1 mb mo _ _ _ gM rfl rfl qo mv kv
 ·
  have b0:(s.md==0)=false:=by simp[hm]
  have b1:(s.md==1)=false:=by simp[hm]
  have b2:(s.md==2)=false:=by simp[hm]
  have b3:(s.md==3)=false:=by simp[hm]
  have b4:(s.md==4)=true:=by simp[hm]
  cases hk:iF c with
  |true=>
   have e:s.bT c=(.zero,bG,false):=by simp[MS.bT,hm,hk]
   rw[e];have HK:Hid _:=hk;clear e gM hm hk;go_enter func76,ntmps76;go_wp2_with fail;refine(uB c true _ HK.o).mono ?_;rintro e w1 ⟨rfl,rfl⟩;go_wp2_with (refine jm _ rfl (.tmp 46) (.tmp 45) rfl mb mo _ .zero rfl _ rfl rfl fq (h.alloc _) ?_);intro u1 m1 k1 z1;have uE:u1.heap[w.heap.size]? =some (.cells (aO bG) 92 (0,0)):=(k1.block _ (by simp) (by omega)).trans (bJ _ _);go_wp2_with (refine cZ _ rfl (.tmp 4) (.tmp 47) rfl w.heap.size bG bG rfl _ rfl rfl rfl 92 uE rfl ?_);intro v1 qo jY DJ;have mv:=m1.own jY (by omega);have kv:=((k0 _).trans k1).own jY (bE _) hlt;go_wp2_with fail;exact fE results76 rfl w v1 mb mo _ _ _ rfl rfl rfl qo mv kv
  |false=>
   have e:s.bT c=(s,bG,false):=by simp[MS.bT,hm,hk]
   rw[e];have HK:Hid _:=hk;clear e gM hm hk;go_enter func76,ntmps76;go_wp2_with fail;refine(uB c false _ HK.o).mono ?_;rintro e w1 ⟨rfl,rfl⟩;go_wp2_with (refine cZ _ rfl (.tmp 4) (.tmp 47) rfl w.heap.size bG bG rfl _ rfl rfl rfl 92 (bJ w _) rfl ?_);intro v1 qo jY DJ;have mv:=(h.alloc _).own jY (by omega);have kv:=(k0 _).own jY (bE _) hlt;go_wp2_with fail;exact fE results76 rfl w v1 mb mo _ _ _ rfl rfl rfl qo mv kv
 ·have e:s.bT c=(s,bG,false):=by simp[MS.bT,hm]
  have b0:(s.md==0)=false:=by simp[hm]
  have b1:(s.md==1)=false:=by simp[hm]
  have b2:(s.md==2)=false:=by simp[hm]
  have b3:(s.md==3)=false:=by simp[hm]
  have b4:(s.md==4)=false:=by simp[hm]
  rw[e];clear e gM hm;go_enter func76,ntmps76;go_wp2_with (refine cZ _ rfl (.tmp 4) (.tmp 47) rfl w.heap.size bG bG rfl _ rfl rfl rfl 92 (bJ w _) rfl ?_);intro v1 qo jY DJ;have mv:=(h.alloc _).own jY (by omega);have kv:=(k0 _).own jY (bE _) hlt;go_wp2_with fail;exact fE results76 rfl w v1 mb mo _ _ _ rfl rfl rfl qo mv kv
theorem BO(mb mo:Nat)(s:MS)(c:Int)(w:World)(h:iD w mb mo s)(hs:s.ok)(hc0:0≤c)(hc1:c≤10000000):
 Calls prog 40 #[.pointer (some ⟨mb,mo,none⟩),.int .i64 c] w fun e w'=>e= .returned (.tuple #[.agg (aO (s.take c).2.1),.bool (s.take c).2.2])∧iD w' mb mo (s.take c).1∧Km mb mo w w':=by
 have hlt:=h.lt;have k0:∀o,Km mb mo w (w.alloc o):=fun o=>(Km.refl mb mo w).alloc o hlt;have c0:=h.c0;rcases(show c=24∨c=26∨c=27∨(c≠24∧c≠26∧c≠27) by omega)with hv|hv|hv|⟨n1,n2,n3⟩
 ·have e:s.take c=(.zero,bG,false):=by simp[MS.take,hv]
  rw[e];clear e;subst hv;go_enter func40,ntmps40;go_wp2_with (refine jm _ rfl (.tmp 15) (.tmp 14) rfl mb mo _ .zero rfl _ rfl rfl fq (h.alloc _) ?_);intro u1 m1 k1 z1;have uE:u1.heap[w.heap.size]? =some (.cells (aO bG) 92 (0,0)):=(k1.block _ (by simp) (by omega)).trans (bJ _ _);go_wp2_with (refine cZ _ rfl (.tmp 4) (.tmp 44) rfl w.heap.size bG bG rfl _ rfl rfl rfl 92 uE rfl ?_);intro v1 qo jY DJ;have mv:=m1.own jY (by omega);have kv:=((k0 _).trans k1).own jY (bE _) hlt;go_wp2_with fail;exact fE results40 rfl w v1 mb mo _ _ _ rfl rfl rfl qo mv kv
 ·have e:s.take c=(.zero,bG,false):=by simp[MS.take,hv]
  rw[e];clear e;subst hv;go_enter func40,ntmps40;go_wp2_with (refine jm _ rfl (.tmp 15) (.tmp 14) rfl mb mo _ .zero rfl _ rfl rfl fq (h.alloc _) ?_);intro u1 m1 k1 z1;have uE:u1.heap[w.heap.size]? =some (.cells (aO bG) 92 (0,0)):=(k1.block _ (by simp) (by omega)).trans (bJ _ _);go_wp2_with (refine cZ _ rfl (.tmp 4) (.tmp 44) rfl w.heap.size bG bG rfl _ rfl rfl rfl 92 uE rfl ?_);intro v1 qo jY DJ;have mv:=m1.own jY (by omega);have kv:=((k0 _).trans k1).own jY (bE _) hlt;go_wp2_with fail;exact fE results40 rfl w v1 mb mo _ _ _ rfl rfl rfl qo mv kv
 ·have e:s.take c=(⟨1,0,0,z16⟩,bG,false):=by simp[MS.take,hv]
  rw[e];clear e;subst hv;go_enter func40,ntmps40;go_wp2_with (refine jm _ rfl (.tmp 21) (.tmp 20) rfl mb mo _ ⟨1,0,0,z16⟩ rfl _ rfl rfl fq (h.alloc _) ?_);intro u1 m1 k1 z1;have uE:u1.heap[w.heap.size]? =some (.cells (aO bG) 92 (0,0)):=(k1.block _ (by simp) (by omega)).trans (bJ _ _);go_wp2_with (refine cZ _ rfl (.tmp 4) (.tmp 44) rfl w.heap.size bG bG rfl _ rfl rfl rfl 92 uE rfl ?_);intro v1 qo jY DJ;have mv:=m1.own jY (by omega);have kv:=((k0 _).trans k1).own jY (bE _) hlt;go_wp2_with fail;exact fE results40 rfl w v1 mb mo _ _ _ rfl rfl rfl qo mv kv
 ·have d1:(c==24)=false:=by simp[n1]
  have d2:(c==26)=false:=by simp[n2]
  have d3:(c==27)=false:=by simp[n3]
  by_cases hm:s.md=5
  ·have e:s.take c=(s.skip c,bG,false):=by simp[MS.take,n1,n2,n3,hm]
   have b5:(s.md==5)=true:=by simp[hm]
   rw[e];clear e hm n1 n2 n3;go_enter func40,ntmps40;go_wp2_with fail;refine(Mf mb mo s c _ (h.alloc _)).mono ?_;rintro e u1 ⟨rfl,m1,k1⟩;have uE:u1.heap[w.heap.size]? =some (.cells (aO bG) 92 (0,0)):=(k1.block _ (by simp) (by omega)).trans (bJ _ _);go_wp2_with (refine cZ _ rfl (.tmp 4) (.tmp 44) rfl w.heap.size bG bG rfl _ rfl rfl rfl 92 uE rfl ?_);intro v1 qo jY DJ;have mv:=m1.own jY (by omega);have kv:=((k0 _).trans k1).own jY (bE _) hlt;go_wp2_with fail;exact fE results40 rfl w v1 mb mo _ _ _ rfl rfl rfl qo mv kv
  ·have b5:(s.md==5)=false:=by simp[hm]
   by_cases h32:c<32
   ·have e:s.take c=(s,[2,c,0,0,0]++z16,true):=by simp[MS.take,n1,n2,n3,hm,h32]
    rw[e];clear e hm n1 n2 n3;go_enter func40,ntmps40;go_wp2_with (refine cZ _ rfl (.tmp 4) (.tmp 35) rfl w.heap.size bG ([2,c,0,0,0]++z16) rfl _ rfl rfl rfl 92 (bJ w _) rfl ?_);intro v1 qo jY DJ;have mv:=(h.alloc _).own jY (by omega);have kv:=(k0 _).own jY (bE _) hlt;go_wp2_with fail;exact fE results40 rfl w v1 mb mo _ _ _ rfl rfl rfl qo mv kv
   ·by_cases h127:c=127
    ·have e:s.take c=(s,bG,false):=by simp[MS.take,hm,h127]
     rw[e];clear e hm n1 n2 n3 d1 d2 d3;subst h127;go_enter func40,ntmps40;go_wp2_with (refine cZ _ rfl (.tmp 4) (.tmp 44) rfl w.heap.size bG bG rfl _ rfl rfl rfl 92 (bJ w _) rfl ?_);intro v1 qo jY DJ;have mv:=(h.alloc _).own jY (by omega);have kv:=(k0 _).own jY (bE _) hlt;go_wp2_with fail;exact fE results40 rfl w v1 mb mo _ _ _ rfl rfl rfl qo mv kv
    ·have e:s.take c=s.bT c:=by simp[MS.take,n1,n2,n3,hm,h32,h127]
     have gM:=rF hs.len c;have d4:(c != 127)=true:=by simp[h127]
     rw[e];clear e hm n1 n2 n3 h127;obtain⟨⟨S,EV,B⟩,hS⟩:∃x,s.bT c=x:=⟨_,rfl⟩;have HS:Hid _:=hS;rw[hS]at gM;rw[hS];clear hS;dsimp only at gM ⊢;go_enter func40,ntmps40;go_wp2_with fail;refine(Dt mb mo s c _ (h.alloc _) hs (by omega) hc1).mono ?_;rw[HS.o];rintro e u1 ⟨rfl,m1,k1⟩;dsimp only at m1 ⊢;have uE:u1.heap[w.heap.size]? =some (.cells (aO bG) 92 (0,0)):=(k1.block _ (by simp) (by omega)).trans (bJ _ _);go_wp2_with (refine cZ _ rfl (.tmp 4) (.tmp 42) rfl w.heap.size bG EV rfl _ rfl rfl gM 92 uE rfl ?_);intro v1 qo jY DJ;have mv:=m1.own jY (by omega);have kv:=((k0 _).trans k1).own jY (bE _) hlt;go_wp2_with fail;exact fE results40 rfl w v1 mb mo _ _ _ gM rfl rfl qo mv kv
theorem rq{base:Nat}{e:TypeId}{v:Value}{n:Nat}{xs:List Value}(h:w.ownsRow base e 1 v n xs):
 ∃ao cap,v= .slice ao n cap∧∀j x,xs[j]? =some x→∃g,ao=some ⟨g,0,none⟩∧w.cell? ⟨g,j,none⟩=some x:=by
 obtain⟨h1,h2⟩:=h;rcases h2 with⟨rfl,h0⟩|⟨g,cap,cur,rfl,_,hg,hn,_,hcs,htake⟩
 ·refine⟨none,0,by rw[h0],fun j x hj=>?_⟩;have:xs=[]:=Jk (by rw[h1,h0]);subst this;simp at hj
 ·refine⟨_,cap,rfl,fun j x hj=>⟨g,rfl,?_⟩⟩;rw[dJ _ _ _ _ _ _ hg];rw[←htake,qA]at hj;split at hj
  ·simpa using hj
  ·cases hj
structure uh (w:World) (bb:Nat) (vi vm:Value) (I:List Value) (M:List Int) (E:List (Value × Int)) (nx:Int):Prop where
 c0:w.cell? ⟨bb,0,none⟩=some vi
 c1:w.cell? ⟨bb,1,none⟩=some vm
 c2:w.cell? ⟨bb,2,none⟩=some (.slice none 0 0)
 c3:w.cell? ⟨bb,3,none⟩=some (.slice none 0 0)
 c4:w.cell? ⟨bb,4,none⟩=some (.slice none 0 0)
 c5:w.cell? ⟨bb,5,none⟩=some (.slice none 0 0)
 c6:w.cell? ⟨bb,6,none⟩=some (.int .i64 nx)
 f:∀j,j<7→w.frozen? ⟨bb,j,none⟩=false
 oi:w.ownsRow (bb+1) 68 1 vi I.length I
 om:eu w (bb+1) vm M
 ent:∀x∈E,Apart x.1 vm∧∃p,p≤1000000000∧eu w (bb+1) x.1 (List.replicate p x.2)
theorem uh.below{w':World}{bb:Nat}{vi vm:Value}{I:List Value}{M:List Int}{E:List (Value × Int)}{nx:Int}(h:uh w bb vi vm I M E nx)(hb:Below w.heap.size w w'):uh w' bb vi vm I M E nx:=by
 have hlt:bb<w.heap.size:=DT _ _ h.c0;have hg:w.grownBy w' none:=⟨hb.os,hb.tape,hb.output,hb.size,fun k hk _=>hb.block k hk⟩;have hr:∀{base e size v n xs},w.ownsRow base e size v n xs→w'.ownsRow base e size v n xs:=fun{_ _ _ v _ _} h=>h.kept hg (by cases hv:v.ownBlock<;>simp)
 refine⟨(hb.cell hlt).trans h.c0,(hb.cell hlt).trans h.c1,(hb.cell hlt).trans h.c2,(hb.cell hlt).trans h.c3,(hb.cell hlt).trans h.c4,(hb.cell hlt).trans h.c5,(hb.cell hlt).trans h.c6,
  fun j hj=>(hb.frozen hlt).trans (h.f j hj),hr h.oi,hr h.om,fun x hx=>?_⟩
 obtain⟨a,p,hp,hl⟩:=h.ent x hx;exact⟨a,p,hp,hr hl⟩
end Go.Proofs.YtheibfffilomcabGreatDoor
