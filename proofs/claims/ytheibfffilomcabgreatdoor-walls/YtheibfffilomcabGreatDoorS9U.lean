import Derived.Test.YtheibfffilomcabGreatDoorS7U
set_option linter.all false
set_option maxHeartbeats 1600000
namespace Go.Ren
open Go.Conc Go.ConcN
open Go.ConcR (KK wgBlock WgAt stA smA rd wr Payload Aside2 DC0 Bk g_of_ofEvents bk_of_mute ofEvent_loc_mark ofEvent_cell deafBehind_cons deafBehind_one ofEvent_mk again_blocked)
set_option linter.unusedSimpArgs false
set_option linter.unusedVariables false
set_option linter.unusedSectionVars false
section
variable [Payload] {c:dR} {j:Nat} {gs:Array Goroutine} {w w':World} {t:Trace} {D:Nat→WD} {rk:Nat→Rk} {S:Nat→Nat→Prop} {d0:Nat} {sl:Option (Nat × Nat)} {tag tag':CTag} {f0 f':Nat} {a a':Goroutine} {st sm st' sm':Int} {es:Array Event}
theorem dR.abf (G:c.Geo) (ha:gs[0]? =some a) (h:c.Core c.n gs w t D rk S 0) (hq:AllQuit c.n D) (hgo:stepG c.P true a w= .go a' w #[Go.ConcR.mk (.acquire (stA c.Wg))]) (hfin:c.fin a' w):
 ∃m₁ ops,runT c.P (crowd gs w sl) 0=(.next m₁,ops)∧c.DX m₁ (t++ops):=by
 have hrun:=runT_crowd_go (P:=c.P) (sl:=sl) (i:=0) ha (by simpa using hgo);have e1:MemOp.ofEvents 0 a.frame.fn a.frame.place #[Go.ConcR.mk (.acquire (stA c.Wg))]= #[{g:=0,fn:=a.frame.fn,pos:=a.frame.place,act:=.mark (.acquire (stA c.Wg))}]:=by rw[ofEvents_eq];simp[ofEvent_mk]
 have core:=h.step0 G (a:=a) (a':=a') (fn:=a.frame.fn) (pos:=a.frame.place) (es:=#[Go.ConcR.mk (.acquire (stA c.Wg))]) (r':=.none) (.refl w) (Ic fun e he=>by simp at he;subst he;exact oO rfl) (by intro e he;simp at he;subst he;simp[Go.ConcR.mk]);have hd0:Deaf (t++MemOp.ofEvents 0 a.frame.fn a.frame.place #[Go.ConcR.mk (.acquire (stA c.Wg))]) 0=0:=by rw[core.deaf0];rfl
 refine⟨_,_,hrun,_,w,sl,a',fun i=>(D (i-1)).fuel,rfl,get_map_set_same _ _ _ (by rw[h.size];omega),hfin,⟨fun i g hi hg=>?_,fun i hi=>?_⟩,?_,core.pay,fun i hi=>core.has i hi (by rw[hq i hi];omega),core.env.base,core.env.os,core.env.o,core.env.tape,core.env.low⟩
 ·obtain⟨i',rfl⟩:∃i',i=i'+1:=⟨i-1,by omega⟩;have hlt:i'<c.n:=by have:=(Array.getElem?_eq_some_iff.1 hg).1;rw[core.size]at this;omega
  obtain⟨g',hg',hs'⟩:=core.wk i' hlt;rw[hg]at hg';cases hg';rw[core.deafW i' hlt];rcases hs' with⟨h7,_⟩|⟨_,hs'⟩
  ·have:=hq i' hlt;omega
  ·simpa using hs'.quits (hq i' hlt)
 ·rw[core.size]at hi;exact Deaf_absent fun x op hx e=>by have:=core.env.ct.gs x op hx;omega
 ·refine Vl (q:=t.size) core.env.ct.nr core.env.ct.gs (fun i hi=>?_) core.norel (by rw[e1];simp[Trace.act?]) (by rw[e1];simp[Trace.g?]) (by rw[e1];exact⟨0,by simp[Trace.g?],by rw[deaf_old (Nat.le_refl _)];exact h.deaf0⟩) hd0;obtain⟨r,hr⟩:=h.rel i hi (by rw[hq i hi];omega);exact⟨r,hr.other g_of_ofEvents (by omega),lt_of_act? hr.QK.act⟩
theorem dR.stepCaller (G:c.Geo) (ha:gs[0]? =some a) (hcs:c.CX tag j f0 (rk 0) d0 (S 0) a w) (h:c.Core j gs w t D rk S d0) (hwg:WgAt c.ty c.Wg w st sm) (hmode:Go.ConcN.Mode j D tag st sm) (hrun:a.status= .running):
 (∃m₁ ops,runT c.P (crowd gs w sl) 0=(.next m₁,ops)∧c.DX m₁ (t++ops))∨
 (∃m₁ ops μ',runT c.P (crowd gs w sl) 0=(.next m₁,ops)∧Lt3 (c.n+1) μ' (phi c.n (Vc j D) tag+Ssum j D,rk,f0+2*Fsum j D)∧c.IX μ' m₁ (t++ops)):=by
 have hVj:=Vc_le j D;have hn:=G.hn;generalize lU:rk 0=r0 at hcs;generalize hS0:S 0=S0 at hcs;cases hcs with
 |g5 hr hk=>
  subst hS0;cases r0 with
  |none=>exact hk.elim
  |leaf=>obtain⟨m,hk⟩:=(hk w (.refl w)).2 ⟨_,_,hwg⟩;exact .inr (dR.aaa G ha hr h hwg hmode hk fun m' _=>.inl (by rw[lU];exact .leaf))
  |node f=>exact .inr (dR.SC G ha h hwg hmode lU hk (.g5 hr))
 |skd hr hk=>subst hS0;exact .inr (dR.aaa G ha hr h hwg hmode hk fun m' e=>.inr ⟨lU.symm,by omega⟩)
 |sa1 hr hk=>
  rename_i r;subst hS0;refine dR.aad G ha h hwg hmode hk (fun q _ e y=>⟨q,.sa1 hr y,.inr ⟨lU.symm,by omega⟩⟩) .inr fun z=>.inr ?_;obtain⟨ho,rfl,rfl,_⟩:=hmode.open_inv trivial;obtain⟨b,go,q,y⟩:=(z w (.refl w)).2 (Vc (c.n-(r+1)) D) (by omega) (by simpa[pend]using hwg);have one:Go.ConcN.Mode (c.n-(r+1)) D (.sp r 3) (((Vc (c.n-(r+1)) D:Nat)+1:Int)*KK) 0:=by simpa[pend]using Mode.opn (j:=c.n-(r+1)) (tag:=.sp r 3) trivial ho nofun
  exact dR.bookC G ha h go (aside_setCell w (stA c.Wg) _) (hwg.setSt _) bk_rw (.ske hr y) one (.inl (by simp only[phi];omega))
 |ske hr hk=>subst hS0;refine dR.aad G ha h hwg hmode hk (fun q _ e y=>⟨q,.ske hr y,.inr ⟨lU.symm,by omega⟩⟩) .inr fun z=>.inr ?_;obtain⟨_,b,go,q,y⟩:=z w (.refl w);exact dR.bookC G ha h go (.refl _ _) hwg bk_en (.sgo hr y) (hmode.reopen trivial trivial rfl nofun) (.inl (by simp only[phi];omega))
 |sgo hr hk=>
  rename_i r;subst hS0;refine dR.aad G ha h hwg hmode hk (fun q _ e y=>⟨q,.sgo hr y,.inr ⟨lU.symm,by omega⟩⟩) .inr fun z=>.inr ?_;obtain⟨_,b,child,go,⟨r1,hc1⟩,r2,hc2⟩:=z w (.refl w);obtain⟨ho,rfl,rfl,_⟩:=hmode.open_inv trivial;have hrun':=runT_crowd_spawn (P:=c.P) (sl:=sl) (i:=0) ha (by simpa using go);rw[h.size]at hrun';have core:=h.spawn G (a':=b) (r0:=r2) (x:={g:=0,fn:=a.frame.fn,pos:=a.frame.place,act:=.go (c.n-(r+1)+1)}) (y:={g:=c.n-(r+1)+1,fn:=child.frame.fn,pos:=a.frame.place,act:=.start}) ⟨rfl,rfl⟩ ⟨rfl,rfl⟩ hc1;have none0:hand S (c.n-(r+1)) 0=fun _=>False:=by simp[hand]
  generalize hj:c.n-(r+1)=j at*;have aaz:∀φ:WD→Nat,sumTo (j+1) (fun k=>φ (upd D j ⟨7,0,0⟩ k))=sumTo j (fun k=>φ (D k))+φ ⟨7,0,0⟩:=fun φ=>by simp only[sumTo,upd_same,sumTo_upd_out D (⟨7,0,0⟩:WD) φ (Nat.le_refl j)]
  have eV:Vc (j+1) (upd D j ⟨7,0,0⟩)=Vc j D+1:=aaz cnt;have eS:Ssum (j+1) (upd D j ⟨7,0,0⟩)=Ssum j D+7:=aaz WD.stage;have opened:OpenSt (j+1) (upd D j ⟨7,0,0⟩):=fun k l=>by
   by_cases e:k=j
   ·simp[upd,e]
   ·simpa[upd,e]using ho k (by omega)
  have aaj:((gs.setIfInBounds 0 b).push child)[0]? =some b:=by
   have:0<(gs.setIfInBounds 0 b).size:=by simp[h.size]
   rw[Array.getElem?_push,if_neg (Nat.ne_of_lt this)];simp[h.size]
  have mode:∀tag',isOpen tag'→pend tag'=0→(∀vs,tag'≠ .w2 vs)→Go.ConcN.Mode (j+1) (upd D j ⟨7,0,0⟩) tag' (((Vc j D+pend (.sp r 2):Nat):Int)*KK) 0:=fun tag' h1 h2 h3=>by have:=Mode.opn (D:=upd D j ⟨7,0,0⟩) h1 opened fun vs e=>(h3 vs e).elim;rw[eV,h2]at this;simpa[pend]using this
  cases r with
  |zero=>
   refine⟨_,_,_,hrun',Lt3.one ?_,_,w,sl,j+1,_,_,_,.kd,0,0,b,_,_,rfl,aaj,?_,core,hwg,mode .kd trivial rfl nofun,rfl⟩
   ·rw[eV,eS];simp only[phi];omega
   ·rw[upd_same,none0,show j+1=c.n by omega];exact .gk hc2
  |succ r=>
   refine⟨_,_,_,hrun',Lt3.one ?_,_,w,sl,j+1,_,_,_,.sp r 5,0,0,b,_,_,rfl,aaj,?_,core,hwg,mode (.sp r 5) trivial rfl nofun,rfl⟩
   ·rw[eV,eS];simp only[phi];omega
   ·rw[upd_same,none0,show j+1=c.n-(r+1) by omega];exact .g5 (by omega) hc2
 |gk hk=>
  subst hS0;cases r0 with
  |none=>exact hk.elim
  |leaf=>obtain⟨m,hk⟩:=(hk w (.refl w)).2 ⟨_,_,hwg⟩;exact .inr (dR.kdC G ha h hwg hmode hk fun m' _=>.inl (by rw[lU];exact .leaf))
  |node f=>exact .inr (dR.SC G ha h hwg hmode lU hk .gk)
 |kd hk=>subst hS0;exact .inr (dR.kdC G ha h hwg hmode hk fun m' e=>.inr ⟨lU.symm,by omega⟩)
 |anch hk=>subst hS0;refine dR.aad G ha h hwg hmode hk (fun q _ e y=>⟨q,.anch y,.inr ⟨lU.symm,by omega⟩⟩) .inr fun z=>.inr ?_;obtain⟨q,y⟩:=G.round _ _ _ (z w (.refl w));obtain⟨m₁,ops,μ',h1,h2,h3⟩:=dR.w1Step (sl:=sl) G ha h hwg (hmode.reopen trivial trivial rfl nofun) lU y;exact⟨m₁,ops,μ',h1,OW (g':=0) h2 (by simp only[phi];omega),h3⟩
 |w1 hk=>subst hS0;exact .inr (dR.w1Step G ha h hwg hmode lU hk)
 |w2 hk=>
  rename_i vs;subst hS0;refine dR.aad G ha h hwg hmode hk (fun q _ e y=>⟨q,.w2 y,.inr ⟨lU.symm,by omega⟩⟩) .inr fun z=>.inr ?_;obtain⟨ho,rfl,rfl,told⟩:=hmode.open_inv trivial;have two:=told vs rfl;have both:=(z w (.refl w)).2 (Vc c.n D) (by omega) (by simpa[pend]using hwg);by_cases e:Vc c.n D=vs
  ·obtain⟨b,go,q,y⟩:=both.1 e;exact dR.bookC G ha h go (aside_setCell w (stA c.Wg) _) (hwg.setSt _) bk_rw (.w3 y) (.reg trivial ho (by omega)) (.inl (by simp only[phi];omega))
  ·obtain⟨b,go,q,y⟩:=both.2 e;exact dR.bookC G ha h go (.refl _ _) hwg bk_rd (.anch y) (hmode.reopen trivial trivial rfl nofun) (.inl (by simp only[phi];omega))
 |w3 hk=>
  subst hS0;refine dR.aad G ha h hwg hmode hk (fun q _ e y=>⟨q+1,.w3 y,.inr ⟨lU.symm,by omega⟩⟩) .inr fun z=>.inr ?_;obtain⟨_,_,sleep,take⟩:=z w (.refl w);cases hmode with
  |opn no _ _=>exact no.elim
  |reg _ x y=>exact dR.bookC G ha h (sleep ⟨_,hwg⟩) (.refl _ _) hwg (by simp) (.blk z) (.reg trivial x y) (.inr ⟨rfl,lU.symm,by omega⟩)
  |last L _ x y u=>exact dR.bookC G ha h (sleep ⟨_,hwg⟩) (.refl _ _) hwg (by simp) (.blk z) (.last L trivial x y u) (.inr ⟨rfl,lU.symm,by omega⟩)
  |fin no _=>exact no.elim
  |sema x=>obtain⟨b,go,q,y⟩:=take hwg;exact dR.bookC G ha h go (aside_setCell w (smA c.Wg) _) (hwg.setSm 0) bk_sem (.w4 y) (.fin trivial x) (.inl (by simp only[phi];omega))
 |blk hk=>simp at hrun
 |w4 hk=>subst hS0;refine dR.aad G ha h hwg hmode hk (fun q _ e y=>⟨q,.w4 y,.inr ⟨lU.symm,by omega⟩⟩) .inr fun z=>.inr ?_;obtain⟨all,rfl,rfl⟩:=hmode.fin_inv trivial;obtain⟨b,go,q,y⟩:=(z w (.refl w)).2 hwg;exact dR.bookC G ha h go (.refl _ _) hwg bk_rd (.ke y) (.fin trivial all) (.inl (by simp only[phi];omega))
 |ke hk=>subst hS0;refine dR.aad G ha h hwg hmode hk (fun q _ e y=>⟨q,.ke y,.inr ⟨lU.symm,by omega⟩⟩) .inr fun z=>.inr ?_;obtain⟨all,rfl,rfl⟩:=hmode.fin_inv trivial;obtain⟨_,b,go,q,y⟩:=z w (.refl w);exact dR.bookC G ha h go (.refl _ _) hwg bk_en (.acq y) (.fin trivial all) (.inl (by simp only[phi];omega))
 |acq hk=>subst hS0;refine dR.aad G ha h hwg hmode hk (fun q _ e y=>⟨q,.acq y,.inr ⟨lU.symm,by omega⟩⟩) .inr fun z=>.inl ?_;obtain⟨_,b,go,y⟩:=z w (.refl w);exact dR.abf G ha h (hmode.fin_inv trivial).1 go y
end
end Go.Ren
namespace Go.Ren
open Go.Conc Go.ConcN
open Go.ConcR (KK wgBlock WgAt stA smA rd wr Payload Aside2 DC0 Bk g_of_ofEvents bk_of_mute ofEvent_loc_mark ofEvent_cell deafBehind_cons deafBehind_one ofEvent_mk again_blocked)
set_option linter.unusedSimpArgs false
set_option linter.unusedVariables false
set_option linter.unusedSectionVars false
section
variable [Payload] {c:dR}
theorem dR.step (G:c.Geo):∀μ m t,c.IX μ m t→(∃m' ops,stepT c.P m=(.next m',ops)∧c.DX m' (t++ops))∨(∃m' ops μ',stepT c.P m=(.next m',ops)∧Lt3 (c.n+1) μ' μ∧c.IX μ' m' (t++ops)):=by
 rintro μ m t ⟨gs,w,sl,j,D,rk,S,tag,f0,d0,a,st,sm,rfl,ha,hcs,h,hwg,hmode,rfl⟩;have who:∀i g,gs[i]? =some g→(i=0∧g=a)∨∃k,i=k+1∧k<j∧c.WX k (D k) (rk (k+1)) (S (k+1)) g w:=fun i g e=>by
  rcases i with _|k
  ·exact .inl ⟨rfl,Option.some.inj (e.symm.trans ha)⟩
  ·have l:k+1<gs.size:=(Array.getElem?_eq_some_iff.1 e).1;have lj:k<j:=by have:=h.size;omega
   obtain⟨_,e',y⟩:=h.wk k lj;obtain rfl:=Option.some.inj (e.symm.trans e');exact .inr ⟨k,rfl,lj,y⟩
 have aw:∀g∈gs,awake g:=fun g hg tm=>by
  obtain⟨i,e⟩:=Array.mem_iff_getElem?.1 hg;rcases who i g e with⟨_,rfl⟩|⟨k,_,_,y⟩
  ·rcases hcs.status G with z|z<;>simp[z.1]
  ·rcases y.status with z|z<;>simp[z]
 have up:∀k,k<j→(D k).stage≠1→∃(i:Nat) (g:Goroutine),gs[i]? =some g∧g.status= .running:=fun k l ne=>let⟨g,e,y⟩:=h.wk k l;⟨k+1,g,e,y.running ne⟩;have some1:∃(i:Nat) (g:Goroutine),gs[i]? =some g∧g.status= .running:=by
  rcases hcs.status G with z|⟨_,rfl⟩
  ·exact⟨0,a,ha,z.1⟩
  ·cases hmode with
   |reg _ _ q=>exact let⟨k,l,e⟩:=exists_counted q;up k l (by omega)
   |last L _ l q _=>exact up L l (by omega)
   |opn no _ _=>exact no.elim
   |fin no _=>exact no.elim
 obtain⟨i,g,d,sl',hg,hrun,hstep⟩:=crowd_pick (P:=c.P) (w:=w) (sl:=sl) aw some1;rw[hstep];have hcs':=hcs.rely (w':=w.at d) ⟨⟨fun _ _=>rfl,Nat.le_refl _,rfl⟩,id⟩;have h':=h.at d;have hwg':WgAt c.ty c.Wg (w.at d) st sm:=hwg;rcases who i g hg with⟨rfl,rfl⟩|⟨k,rfl,l,_⟩
 ·exact dR.stepCaller (sl:=sl') G ha hcs' h' hwg' hmode hrun
 ·exact .inr (dR.stepWorker G ha hcs' h' hwg' hmode l hg hrun)
theorem dR.runs (G:c.Geo) {μ:Nat × (Nat→Rk) × Nat} {m:Machine} {t:Trace} (h:c.IX μ m t):∃N m' t',runNT c.P N m t=(.next m',t')∧c.DX m' t':=by
 induction μ using(lt3_wf (c.n+1)).induction generalizing m t with
 |_ μ ih=>
  rcases dR.step G μ m t h with⟨m',ops,h1,h2⟩|⟨m',ops,μ',h1,h2,h3⟩
  ·exact⟨1,m',t++ops,by simp only[runNT,h1],h2⟩
  ·obtain⟨N,m2,t2,h4,h5⟩:=ih μ' h2 h3;exact⟨N+1,m2,t2,by simp only[runNT,h1];exact h4,h5⟩
end
end Go.Ren
