import Derived.Test.YtheibfffilomcabGreatDoorS7U
set_option linter.all false
set_option maxHeartbeats 1600000
namespace Go.Ren
open Go.Conc Go.ConcN
open Go.ConcR (KK wgBlock WgAt stA smA rd wr Payload Aside2 DC0 Bk g_of_ofEvents bk_of_mute ofEvent_loc_mark ofEvent_cell deafBehind_cons deafBehind_one ofEvent_mk again_blocked)
set_option linter.unusedSimpArgs false
set_option linter.unusedVariables false
set_option linter.unusedSectionVars false
section
variable [Payload] {c:dR} {j:Nat} {gs:Array Goroutine} {w w':World} {t:Trace} {D:Nat→WD} {rk:Nat→Rk} {S:Nat→Nat→Prop} {d0:Nat} {sl:Option (Nat × Nat)} {tag tag':CTag} {f0 f':Nat} {a a':Goroutine} {st sm st' sm':Int} {es:Array Event}
theorem dR.abf (G:c.Geo) (ha:gs[0]? =some a) (h:c.Core c.n gs w t D rk S 0) (hq:AllQuit c.n D) (hgo:stepG c.P true a w= .go a' w #[Go.ConcR.mk (.acquire (stA c.Wg))]) (hfin:c.fin a' w):
 ∃m₁ ops,runT c.P (crowd gs w sl) 0=(.next m₁,ops)∧c.DX m₁ (t++ops):=by
 have hrun:=runT_crowd_go (P:=c.P) (sl:=sl) (i:=0) ha (by simpa using hgo);have e1:MemOp.ofEvents 0 a.frame.fn a.frame.place #[Go.ConcR.mk (.acquire (stA c.Wg))]= #[{g:=0,fn:=a.frame.fn,pos:=a.frame.place,act:=.mark (.acquire (stA c.Wg))}]:=by rw[ofEvents_eq];simp[ofEvent_mk]
 have hy:(t++ #[({g:=0,fn:=a.frame.fn,pos:=a.frame.place,act:=.mark (.acquire (stA c.Wg))}:MemOp)])[t.size]? =some {g:=0,fn:=a.frame.fn,pos:=a.frame.place,act:=.mark (.acquire (stA c.Wg))}:=by simp
 have core:=h.step0 G (a:=a) (a':=a') (fn:=a.frame.fn) (pos:=a.frame.place) (es:=#[Go.ConcR.mk (.acquire (stA c.Wg))]) (r':=.none) (.refl w) (Ic fun e he=>by simp at he;subst he;exact oO rfl) (by intro e he;simp at he;subst he;simp[Go.ConcR.mk]);have hd0:Deaf (t++MemOp.ofEvents 0 a.frame.fn a.frame.place #[Go.ConcR.mk (.acquire (stA c.Wg))]) 0=0:=by rw[core.deaf0];rfl
 refine⟨_,_,hrun,_,w,sl,a',fun i=>(D (i-1)).fuel,rfl,get_map_set_same _ _ _ (by rw[h.size];omega),hfin,⟨fun i g hi hg=>?_,fun i hi=>?_⟩,?_,core.pay,fun i hi=>core.has i hi (by rw[hq i hi];omega),core.env.base,core.env.os,core.env.o,core.env.tape,core.env.low⟩
 ·obtain⟨i',rfl⟩:∃i',i=i'+1:=⟨i-1,by omega⟩;have hlt:i'<c.n:=by have:=(Array.getElem?_eq_some_iff.1 hg).1;rw[core.size]at this;omega
  obtain⟨g',hg',hs'⟩:=core.wk i' hlt;rw[hg]at hg';cases hg';rw[core.deafW i' hlt];rcases hs' with⟨h7,_⟩|⟨_,hs'⟩
  ·have:=hq i' hlt;omega
  ·simpa using hs'.quits (hq i' hlt)
 ·rw[core.size]at hi;exact Deaf_absent fun x op hx e=>by have:=core.env.ct.gs x op hx;omega
 ·refine Vl (q:=t.size) core.env.ct.nr core.env.ct.gs (fun i hi=>?_) core.norel (by rw[e1,act?_of hy]) (by rw[e1];simp[Trace.g?]) (by rw[e1];exact⟨0,by simp[Trace.g?],by rw[deaf_old (Nat.le_refl _)];exact h.deaf0⟩) hd0;obtain⟨r,hr⟩:=h.rel i hi (by rw[hq i hi];omega);exact⟨r,hr.other g_of_ofEvents (by omega),lt_of_act? hr.QK.act⟩
theorem dR.stepCaller (G:c.Geo) (ha:gs[0]? =some a) (hcs:c.CX tag j f0 (rk 0) d0 (S 0) a w) (h:c.Core j gs w t D rk S d0) (hwg:WgAt c.ty c.Wg w st sm) (hmode:Go.ConcN.Mode j D tag st sm) (hrun:a.status= .running):
 (∃m₁ ops,runT c.P (crowd gs w sl) 0=(.next m₁,ops)∧c.DX m₁ (t++ops))∨
 (∃m₁ ops μ',runT c.P (crowd gs w sl) 0=(.next m₁,ops)∧Lt3 (c.n+1) μ' (phi c.n (Vc j D) tag+Ssum j D,rk,f0+2*Fsum j D)∧c.IX μ' m₁ (t++ops)):=by
 have hVj:=Vc_le j D;have hn:=G.hn;generalize lU:rk 0=r0 at hcs;generalize hS0:S 0=S0 at hcs;cases hcs with
 |g5 hr hk=>
  subst hS0;cases r0 with
  |none=>exact hk.elim
  |leaf=>obtain⟨m,hk⟩:=(hk w (.refl w)).2 ⟨_,_,hwg⟩;exact .inr (dR.aaa G ha hr h hwg hmode hk fun m' _=>.inl (by rw[lU];exact .leaf))
  |node f=>exact .inr (dR.SC G ha h hwg hmode lU hk (.g5 hr))
 |skd hr hk=>subst hS0;exact .inr (dR.aaa G ha hr h hwg hmode hk fun m' e=>.inr ⟨lU.symm,by omega⟩)
 |sa1 hr hk=>
  rename_i r;subst hS0;rcases Goes.cases hk with hstop|⟨m',rfl,hstep⟩
  ·obtain⟨_,hall⟩:=hstop w (.refl w);obtain⟨ho,rfl,rfl,_⟩:=hmode.open_inv trivial;obtain⟨a',hgo,m₂,hk⟩:=hall (Vc (c.n-(r+1)) D) (by omega) (by simpa[pend]using hwg);refine .inr (dR.bookC G ha h hgo (aside_setCell w (stA c.Wg) _) (hwg.setSt _) bk_rw (.ske hr hk) ?_ (.inl (by simp only[phi];omega)));have e:(((Vc (c.n-(r+1)) D:Nat):Int)+1)*KK=((Vc (c.n-(r+1)) D+pend (.sp r 3):Nat):Int)*KK:=by simp[pend]
   rw[e];exact .opn trivial ho (by simp)
  ·obtain⟨a',w',es,hgo,hD,hg'⟩:=hstep w (.refl w);exact .inr (dR.idleC G ha h hwg hmode hgo hD (.sa1 hr hg') (.inr ⟨lU.symm,by omega⟩))
 |ske hr hk=>
  subst hS0;rcases Goes.cases hk with hstop|⟨m',rfl,hstep⟩
  ·obtain⟨_,a',hgo,m₂,hk⟩:=hstop w (.refl w);exact .inr (dR.bookC G ha h hgo (.refl c.Wg w) hwg bk_en (.sgo hr hk) (hmode.reopen trivial trivial rfl (by simp)) (.inl (by simp only[phi];omega)))
  ·obtain⟨a',w',es,hgo,hD,hg'⟩:=hstep w (.refl w);exact .inr (dR.idleC G ha h hwg hmode hgo hD (.ske hr hg') (.inr ⟨lU.symm,by omega⟩))
 |sgo hr hk=>
  rename_i r;subst hS0;rcases Goes.cases hk with hstop|⟨m',rfl,hstep⟩
  ·obtain⟨_,a',child,hsp,⟨r1,hc1⟩,r2,hc2⟩:=hstop w (.refl w);obtain⟨ho,rfl,rfl,_⟩:=hmode.open_inv trivial;have hrun':=runT_crowd_spawn (P:=c.P) (sl:=sl) (i:=0) ha (by simpa using hsp);rw[h.size]at hrun';have hcom':=h.spawn G (a':=a') (r0:=r2) (x:={g:=0,fn:=a.frame.fn,pos:=a.frame.place,act:=.go (c.n-(r+1)+1)}) (y:={g:=c.n-(r+1)+1,fn:=child.frame.fn,pos:=a.frame.place,act:=.start}) ⟨rfl,rfl⟩ ⟨rfl,rfl⟩ hc1;have eV:Vc (c.n-(r+1)+1) (upd D (c.n-(r+1)) ⟨7,0,0⟩)=Vc (c.n-(r+1)) D+1:=by simp only[Vc,sumTo,upd_same];rw[sumTo_upd_out D _ cnt (Nat.le_refl _)];rfl
   have eS:Ssum (c.n-(r+1)+1) (upd D (c.n-(r+1)) ⟨7,0,0⟩)=Ssum (c.n-(r+1)) D+7:=by simp only[Ssum,sumTo,upd_same];rw[sumTo_upd_out D _ WD.stage (Nat.le_refl _)]
   have ho':OpenSt (c.n-(r+1)+1) (upd D (c.n-(r+1)) ⟨7,0,0⟩):=fun i hi=>by
    by_cases e:i=c.n-(r+1)
    ·subst e;rw[upd_same];simp
    ·rw[upd_ne D _ e];exact ho i (by omega)
   have ha':((gs.setIfInBounds 0 a').push child)[0]? =some a':=by rw[Array.getElem?_push_lt (by simp[h.size]), ←Array.getElem?_eq_getElem];simp[h.size]
   have ej:c.n-(r+1)+1=c.n-r:=by omega
   have hS':hand S (c.n-(r+1)) 0=fun _=>False:=by simp[hand]
   have hmd:∀tag',isOpen tag'→pend tag'=0→(∀vs,tag'≠ .w2 vs)→Go.ConcN.Mode (c.n-(r+1)+1) (upd D (c.n-(r+1)) ⟨7,0,0⟩) tag' (((Vc (c.n-(r+1)) D+pend (.sp r 2):Nat):Int)*KK) 0:=fun tag' h1 h2 h3=>by have:=Mode.opn (j:=c.n-(r+1)+1) (D:=upd D (c.n-(r+1)) ⟨7,0,0⟩) h1 ho' (fun vs e=>absurd e (h3 vs));rw[eV,h2]at this;simpa[pend]using this
   refine .inr ?_;cases r with
   |zero=>
    refine⟨_,_,_,hrun',?_,_,w,sl,c.n-(0+1)+1,_,_,_,.kd,0,0,a',_,_,rfl,ha',?_,hcom',hwg,hmd .kd trivial rfl (by simp),rfl⟩
    ·refine Lt3.one ?_;rw[eV,eS];simp only[phi];omega
    ·rw[upd_same,hS',show c.n-(0+1)+1=c.n by omega];exact .gk hc2
   |succ r=>
    refine⟨_,_,_,hrun',?_,_,w,sl,c.n-(r+1+1)+1,_,_,_,.sp r 5,0,0,a',_,_,rfl,ha',?_,hcom',hwg,hmd (.sp r 5) trivial rfl (by simp),rfl⟩
    ·refine Lt3.one ?_;rw[eV,eS];simp only[phi];omega
    ·rw[upd_same,hS',show c.n-(r+1+1)+1=c.n-(r+1) by omega];exact .g5 (by omega) hc2
  ·obtain⟨a',w',es,hgo,hD,hg'⟩:=hstep w (.refl w);exact .inr (dR.idleC G ha h hwg hmode hgo hD (.sgo hr hg') (.inr ⟨lU.symm,by omega⟩))
 |gk hk=>
  subst hS0;cases r0 with
  |none=>exact hk.elim
  |leaf=>obtain⟨m,hk⟩:=(hk w (.refl w)).2 ⟨_,_,hwg⟩;exact .inr (dR.kdC G ha h hwg hmode hk fun m' _=>.inl (by rw[lU];exact .leaf))
  |node f=>exact .inr (dR.SC G ha h hwg hmode lU hk .gk)
 |kd hk=>subst hS0;exact .inr (dR.kdC G ha h hwg hmode hk fun m' e=>.inr ⟨lU.symm,by omega⟩)
 |anch hk=>
  subst hS0;rcases Goes.cases hk with hstop|⟨m',rfl,hstep⟩
  ·obtain⟨m₂,hk⟩:=G.round _ _ _ (hstop w (.refl w));obtain⟨m₁,ops,μ',h1,h2,h3⟩:=dR.w1Step (sl:=sl) G ha h hwg (hmode.reopen trivial trivial rfl (by simp)) lU hk;exact .inr ⟨m₁,ops,μ',h1,OW (g':=0) h2 (by simp only[phi];omega),h3⟩
  ·obtain⟨a',w',es,hgo,hD,hg'⟩:=hstep w (.refl w);exact .inr (dR.idleC G ha h hwg hmode hgo hD (.anch hg') (.inr ⟨lU.symm,by omega⟩))
 |w1 hk=>subst hS0;exact .inr (dR.w1Step G ha h hwg hmode lU hk)
 |w2 hk=>
  rename_i vs;subst hS0;rcases Goes.cases hk with hstop|⟨m',rfl,hstep⟩
  ·obtain⟨_,hall⟩:=hstop w (.refl w);obtain⟨ho,rfl,rfl,hw2⟩:=hmode.open_inv trivial;obtain⟨hle,h1⟩:=hw2 vs rfl;obtain⟨hhit,hmiss⟩:=hall (Vc c.n D) (by omega) (by simpa[pend]using hwg);by_cases e:Vc c.n D=vs
   ·obtain⟨a',hgo,m₂,hk⟩:=hhit e;exact .inr (dR.bookC G ha h hgo (aside_setCell w (stA c.Wg) _) (hwg.setSt _) bk_rw (.w3 hk) (.reg trivial ho (by omega)) (.inl (by simp only[phi];omega)))
   ·obtain⟨a',hgo,m₂,hk⟩:=hmiss e;exact .inr (dR.bookC G ha h hgo (.refl c.Wg w) hwg bk_rd (.anch hk) (hmode.reopen trivial trivial rfl (by simp)) (.inl (by simp only[phi];omega)))
  ·obtain⟨a',w',es,hgo,hD,hg'⟩:=hstep w (.refl w);exact .inr (dR.idleC G ha h hwg hmode hgo hD (.w2 hg') (.inr ⟨lU.symm,by omega⟩))
 |w3 hk=>
  subst hS0;rcases Goes.cases hk with hstop|⟨m',rfl,hstep⟩
  ·obtain⟨_,hoff,hblk,htake⟩:=hstop w (.refl w);cases hmode with
   |opn h1 _ _=>exact h1.elim
   |reg h1 h2 h3=>exact .inr (dR.bookC G ha h (hblk ⟨_,hwg⟩) (.refl c.Wg w) hwg (by simp) (.blk hstop) (.reg trivial h2 h3) (.inr ⟨rfl,lU.symm,by omega⟩))
   |last L h1 h2 h3 h4=>exact .inr (dR.bookC G ha h (hblk ⟨_,hwg⟩) (.refl c.Wg w) hwg (by simp) (.blk hstop) (.last L trivial h2 h3 h4) (.inr ⟨rfl,lU.symm,by omega⟩))
   |sema h2=>obtain⟨a',hgo,m₂,hk⟩:=htake hwg;exact .inr (dR.bookC G ha h hgo (aside_setCell w (smA c.Wg) _) (hwg.setSm 0) bk_sem (.w4 hk) (.fin trivial h2) (.inl (by simp only[phi];omega)))
   |fin h1 _=>exact h1.elim
  ·obtain⟨a',w',es,hgo,hD,hg'⟩:=hstep w (.refl w);exact .inr (dR.idleC G ha h hwg hmode hgo hD (.w3 hg') (.inr ⟨lU.symm,by omega⟩))
 |blk hk=>simp at hrun
 |w4 hk=>
  subst hS0;rcases Goes.cases hk with hstop|⟨m',rfl,hstep⟩
  ·obtain⟨_,hx⟩:=hstop w (.refl w);obtain⟨hq,rfl,rfl⟩:=hmode.fin_inv trivial;obtain⟨a',hgo,m₂,hk⟩:=hx hwg;exact .inr (dR.bookC G ha h hgo (.refl c.Wg w) hwg bk_rd (.ke hk) (.fin trivial hq) (.inl (by simp only[phi];omega)))
  ·obtain⟨a',w',es,hgo,hD,hg'⟩:=hstep w (.refl w);exact .inr (dR.idleC G ha h hwg hmode hgo hD (.w4 hg') (.inr ⟨lU.symm,by omega⟩))
 |ke hk=>
  subst hS0;rcases Goes.cases hk with hstop|⟨m',rfl,hstep⟩
  ·obtain⟨_,a',hgo,m₂,hk⟩:=hstop w (.refl w);obtain⟨hq,rfl,rfl⟩:=hmode.fin_inv trivial;exact .inr (dR.bookC G ha h hgo (.refl c.Wg w) hwg bk_en (.acq hk) (.fin trivial hq) (.inl (by simp only[phi];omega)))
  ·obtain⟨a',w',es,hgo,hD,hg'⟩:=hstep w (.refl w);exact .inr (dR.idleC G ha h hwg hmode hgo hD (.ke hg') (.inr ⟨lU.symm,by omega⟩))
 |acq hk=>
  subst hS0;rcases Goes.cases hk with hstop|⟨m',rfl,hstep⟩
  ·obtain⟨_,a',hgo,hfin⟩:=hstop w (.refl w);obtain⟨hq,rfl,rfl⟩:=hmode.fin_inv trivial;exact .inl (dR.abf G ha h hq hgo hfin)
  ·obtain⟨a',w',es,hgo,hD,hg'⟩:=hstep w (.refl w);exact .inr (dR.idleC G ha h hwg hmode hgo hD (.acq hg') (.inr ⟨lU.symm,by omega⟩))
end
end Go.Ren
namespace Go.Ren
open Go.Conc Go.ConcN
open Go.ConcR (KK wgBlock WgAt stA smA rd wr Payload Aside2 DC0 Bk g_of_ofEvents bk_of_mute ofEvent_loc_mark ofEvent_cell deafBehind_cons deafBehind_one ofEvent_mk again_blocked)
set_option linter.unusedSimpArgs false
set_option linter.unusedVariables false
set_option linter.unusedSectionVars false
section
variable [Payload] {c:dR}
theorem dR.step (G:c.Geo):∀μ m t,c.IX μ m t→(∃m' ops,stepT c.P m=(.next m',ops)∧c.DX m' (t++ops))∨(∃m' ops μ',stepT c.P m=(.next m',ops)∧Lt3 (c.n+1) μ' μ∧c.IX μ' m' (t++ops)):=by
 rintro μ m t ⟨gs,w,sl,j,D,rk,S,tag,f0,d0,a,st,sm,rfl,ha,hcs,h,hwg,hmode,rfl⟩;have aw:∀g∈gs,awake g:=by
  intro g hg tm;obtain⟨i,hi⟩:=Array.mem_iff_getElem?.1 hg;cases i with
  |zero=>rw[ha]at hi;cases hi;rcases hcs.status G with⟨hs,_⟩|⟨hs,_⟩<;>rw[hs]<;>simp
  |succ i=>
   have hlt:i<j:=by have:=(Array.getElem?_eq_some_iff.1 hi).1;rw[h.size]at this;omega
   obtain⟨g',hg',hs⟩:=h.wk i hlt;rw[hi]at hg';cases hg';rcases hs.status with h|h<;>rw[h]<;>simp
 have some1:∃(i:Nat) (g:Goroutine),gs[i]? =some g∧g.status= .running:=by
  rcases hcs.status G with⟨hs,_⟩|⟨_,rfl⟩
  ·exact⟨0,a,ha,hs⟩
  ·cases hmode with
   |opn h1 _ _=>exact h1.elim
   |reg _ _ h3=>obtain⟨i,hi,h5⟩:=exists_counted h3;obtain⟨g,hg,hs⟩:=h.wk i hi;exact⟨i+1,g,hg,hs.running (by omega)⟩
   |last L _ h2 h3 _=>obtain⟨g,hg,hs⟩:=h.wk L h2;exact⟨L+1,g,hg,hs.running (by omega)⟩
   |fin h1 _=>exact h1.elim
 obtain⟨i,g,d,sl',hg,hrun,hstep⟩:=crowd_pick (P:=c.P) (w:=w) (sl:=sl) aw some1;rw[hstep];have hcs':=hcs.rely (w':=w.at d) ⟨⟨fun _ _=>rfl,Nat.le_refl _,rfl⟩,id⟩;have h':=h.at d;have hwg':WgAt c.ty c.Wg (w.at d) st sm:=hwg;cases i with
 |zero=>rw[ha]at hg;cases hg;exact dR.stepCaller (sl:=sl') G ha hcs' h' hwg' hmode hrun
 |succ i=>
  have hi:i<j:=by have:=(Array.getElem?_eq_some_iff.1 hg).1;rw[h.size]at this;omega
  exact .inr (dR.stepWorker G ha hcs' h' hwg' hmode hi hg hrun)
theorem dR.runs (G:c.Geo) {μ:Nat × (Nat→Rk) × Nat} {m:Machine} {t:Trace} (h:c.IX μ m t):∃N m' t',runNT c.P N m t=(.next m',t')∧c.DX m' t':=by
 induction μ using(lt3_wf (c.n+1)).induction generalizing m t with
 |_ μ ih=>
  rcases dR.step G μ m t h with⟨m',ops,h1,h2⟩|⟨m',ops,μ',h1,h2,h3⟩
  ·exact⟨1,m',t++ops,by simp only[runNT,h1],h2⟩
  ·obtain⟨N,m2,t2,h4,h5⟩:=ih μ' h2 h3;exact⟨N+1,m2,t2,by simp only[runNT,h1];exact h4,h5⟩
end
end Go.Ren
