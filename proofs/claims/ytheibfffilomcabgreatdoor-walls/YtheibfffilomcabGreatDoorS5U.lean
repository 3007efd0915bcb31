import Derived.Test.YtheibfffilomcabGreatDoorS3U
import Derived.Test.YtheibfffilomcabGreatDoorR4U
set_option linter.all false
namespace Go.Ren
open Go.Conc Go.ConcN
open Go.ConcR (KK wgBlock WgAt stA smA rd wr mk Payload Aside2 DC0 Bk g_of_ofEvents bk_of_mute ofEvent_loc_mark ofEvent_cell deafBehind_cons deafBehind_one ofEvent_mk again_blocked)
set_option linter.unusedSimpArgs false
set_option linter.unusedVariables false
set_option linter.unusedSectionVars false
structure dR where
 P:Program
 ty:TypeId
 Wg:Nat
 C:Nat
 n:Nat
 B0:Nat
 w0:World
 val:Nat→Value
 anch:(Nat→Prop)→Goroutine→World→Prop
 fin:Goroutine→World→Prop
namespace dR
variable [Payload] (c:dR)
def Bs:Nat→Prop:=Js c.Wg c.C c.B0
def RL (S:Nat→Prop) (w w₁:World):Prop:=RY (fun b=>c.Bs b∨S b) w w₁∧(WgLive c.ty c.Wg w→WgLive c.ty c.Wg w₁)
def DS (w w':World) (es:Array Event):Prop:=w'=w∧∀e∈es,Said c.Wg e
def GP (S:Nat→Prop) (Stop:Goroutine→World→Prop):Nat→Goroutine→World→Prop:=Goes c.P true (c.RL S) c.DS Stop
section
variable (S:Nat→Prop)
def Xy (g:Goroutine) (w:World):Prop:=g.status= .running∧∃g',stepG c.P true g w= .go g' w #[Go.ConcR.mk (.acquire (stA c.Wg))]∧c.fin g' w
def XKe (g:Goroutine) (w:World):Prop:=g.status= .running∧∃g',stepG c.P true g w= .go g' w #[Go.ConcR.mk .enable]∧∃m,c.GP S c.Xy m g' w
def XW4 (g:Goroutine) (w:World):Prop:=g.status= .running∧(WgAt c.ty c.Wg w 0 0→∃g',stepG c.P true g w= .go g' w #[rd (stA c.Wg)]∧∃m,c.GP S (c.XKe S) m g' w)
def XW3 (g:Goroutine) (w:World):Prop:=
 g.status= .running∧g.offers=none∧((∃st,WgAt c.ty c.Wg w st 0)→stepG c.P true g w= .go {g with status:=.blocked} w #[])∧
  (WgAt c.ty c.Wg w 0 1→∃g',stepG c.P true g w= .go g' (w.setCell (smA c.Wg) (.int .u32 0)) (semEvents (smA c.Wg))∧∃m,c.GP S (c.XW4 S) m g' (w.setCell (smA c.Wg) (.int .u32 0)))
def XW2 (vs:Nat) (g:Goroutine) (w:World):Prop:=
 g.status= .running∧∀v:Nat,v<2147483648→WgAt c.ty c.Wg w (v*KK) 0→
  (v=vs→∃g',stepG c.P true g w= .go g' (w.setCell (stA c.Wg) (.int .u64 (v*KK+1))) #[rd (stA c.Wg),wr (stA c.Wg)]∧∃m,c.GP S (c.XW3 S) m g' (w.setCell (stA c.Wg) (.int .u64 (v*KK+1))))∧
  (v≠vs→∃g',stepG c.P true g w= .go g' w #[rd (stA c.Wg)]∧∃m,c.GP S (c.anch S) m g' w)
def XW1 (g:Goroutine) (w:World):Prop:=
 g.status= .running∧∀v:Nat,v<2147483648→WgAt c.ty c.Wg w (v*KK) 0→∃g',stepG c.P true g w= .go g' w #[rd (stA c.Wg)]∧
  (v=0→∃m,c.GP S (c.XKe S) m g' w)∧(v≠0→∃m,c.GP S (c.XW2 S v) m g' w)
def XKd (g:Goroutine) (w:World):Prop:=g.status= .running∧∃g',stepG c.P true g w= .go g' w #[Go.ConcR.mk .disable]∧∃m,c.GP S (c.anch S) m g' w
end
def ES (i:Nat) (_:Nat→Prop) (g:Goroutine) (w:World):Prop:=
 g.status= .running∧(PayAt c.C c.n w→WgLive c.ty c.Wg w→Works c.P c.ty c.Wg c.C c.n (yA c.C) NM 0 (i+1) (c.val i) g w)
section
variable (S:Nat→Prop) (j:Nat) (Next:Goroutine→World→Prop)
def XGo (g:Goroutine) (w:World):Prop:=g.status= .running∧∃g' child,stepG c.P true g w= .spawn g' child w #[]∧GE c.P false c.Bs (c.ES j) S child w∧Next g' w
def Tx (g:Goroutine) (w:World):Prop:=g.status= .running∧∃g',stepG c.P true g w= .go g' w #[Go.ConcR.mk .enable]∧∃m,c.GP S (c.XGo S j Next) m g' w
def XA1 (g:Goroutine) (w:World):Prop:=
 g.status= .running∧∀v:Nat,v<2147483647→WgAt c.ty c.Wg w (v*KK) 0→
  ∃g',stepG c.P true g w= .go g' (w.setCell (stA c.Wg) (.int .u64 ((v+1)*KK))) #[rd (stA c.Wg),wr (stA c.Wg)]∧∃m,c.GP S (c.Tx S j Next) m g' (w.setCell (stA c.Wg) (.int .u64 ((v+1)*KK)))
def QH (g:Goroutine) (w:World):Prop:=g.status= .running∧∃g',stepG c.P true g w= .go g' w #[Go.ConcR.mk .disable]∧∃m,c.GP S (c.XA1 S j Next) m g' w
end
def Gx:Nat→(Nat→Prop)→Goroutine→World→Prop
 | 0,S,g,w=>g.status= .running∧(WgLive c.ty c.Wg w→∃m,c.GP S (c.XKd S) m g w)
 |r+1,S,g,w=>g.status= .running∧(WgLive c.ty c.Wg w→∃m,c.GP S (c.QH S (c.n-(r+1)) (fun g w=>GE c.P true c.Bs (Gx r) (fun _=>False) g w)) m g w)
def NX (r:Nat) (g:Goroutine) (w:World):Prop:=GE c.P true c.Bs (c.Gx r) (fun _=>False) g w
inductive CX:CTag→Nat→Nat→Rk→Nat→(Nat→Prop)→Goroutine→World→Prop
 |g5 {r:Nat} {rk:Rk} {S:Nat→Prop} {g:Goroutine} {w:World}:r<c.n→GT c.P true c.Bs (c.Gx (r+1)) rk S g w→CX (.sp r 5) (c.n-(r+1)) 0 rk 0 S g w
 |skd {r m:Nat} {S:Nat→Prop} {g:Goroutine} {w:World}:r<c.n→c.GP S (c.QH S (c.n-(r+1)) (c.NX r)) m g w→CX (.sp r 5) (c.n-(r+1)) m .none 0 S g w
 |sa1 {r m:Nat} {S:Nat→Prop} {g:Goroutine} {w:World}:r<c.n→c.GP S (c.XA1 S (c.n-(r+1)) (c.NX r)) m g w→CX (.sp r 4) (c.n-(r+1)) m .none 1 S g w
 |ske {r m:Nat} {S:Nat→Prop} {g:Goroutine} {w:World}:r<c.n→c.GP S (c.Tx S (c.n-(r+1)) (c.NX r)) m g w→CX (.sp r 3) (c.n-(r+1)) m .none 1 S g w
 |sgo {r m:Nat} {S:Nat→Prop} {g:Goroutine} {w:World}:r<c.n→c.GP S (c.XGo S (c.n-(r+1)) (c.NX r)) m g w→CX (.sp r 2) (c.n-(r+1)) m .none 0 S g w
 |gk {rk:Rk} {S:Nat→Prop} {g:Goroutine} {w:World}:GT c.P true c.Bs (c.Gx 0) rk S g w→CX .kd c.n 0 rk 0 S g w
 |kd {m:Nat} {S:Nat→Prop} {g:Goroutine} {w:World}:c.GP S (c.XKd S) m g w→CX .kd c.n m .none 0 S g w
 |anch {m:Nat} {S:Nat→Prop} {g:Goroutine} {w:World}:c.GP S (c.anch S) m g w→CX .anch c.n m .none 1 S g w
 |w1 {m:Nat} {S:Nat→Prop} {g:Goroutine} {w:World}:c.GP S (c.XW1 S) m g w→CX .w1 c.n m .none 1 S g w
 |w2 {vs m:Nat} {S:Nat→Prop} {g:Goroutine} {w:World}:c.GP S (c.XW2 S vs) m g w→CX (.w2 vs) c.n m .none 1 S g w
 |w3 {m:Nat} {S:Nat→Prop} {g:Goroutine} {w:World}:c.GP S (c.XW3 S) m g w→CX .w3 c.n (m+1) .none 1 S g w
 |blk {S:Nat→Prop} {g:Goroutine} {w:World}:(∀w₁,c.RL S w w₁→c.XW3 S g w₁)→CX .blk c.n 0 .none 1 S {g with status:=.blocked} w
 |w4 {m:Nat} {S:Nat→Prop} {g:Goroutine} {w:World}:c.GP S (c.XW4 S) m g w→CX .w4 c.n m .none 1 S g w
 |ke {m:Nat} {S:Nat→Prop} {g:Goroutine} {w:World}:c.GP S (c.XKe S) m g w→CX .ke c.n m .none 1 S g w
 |acq {m:Nat} {S:Nat→Prop} {g:Goroutine} {w:World}:c.GP S c.Xy m g w→CX .acq c.n m .none 0 S g w
def WX (i:Nat) (d:WD) (r:Rk) (S:Nat→Prop) (g:Goroutine) (w:World):Prop:=
 (d.stage=7∧d.fuel=0∧d.deaf=0∧GT c.P false c.Bs (c.ES i) r S g w)∨(r= .none∧WSit c.P c.ty c.Wg c.C c.n (yA c.C) NM 0 (i+1) (c.val i) d.stage d.fuel d.deaf g w)
structure Core (j:Nat) (gs:Array Goroutine) (w:World) (t:Trace) (D:Nat→WD) (rk:Nat→Rk) (S:Nat→Nat→Prop) (d0:Nat):Prop where
 env:Env c.Wg c.C c.B0 j c.w0 w t S
 size:gs.size=j+1
 wk:∀i,i<j→∃g,gs[i+1]? =some g∧c.WX i (D i) (rk (i+1)) (S (i+1)) g w
 norel:NoRelease (stA c.Wg) t
 deaf0:Deaf t 0=d0
 deafW:∀i,i<j→Deaf t (i+1)=(D i).deaf
 rel:∀i,i<j→(D i).stage≤6→∃r,oF c.Wg t (i+1) r
 has:∀i,i<j→(D i).stage≤6→Has c.C i (c.val i) w
 pay:PayAt c.C c.n w
 up:∀k b,j<k→¬S k b
structure Geo:Prop where
 hW:c.Wg<c.B0
 hC:c.C<c.B0
 hCW:c.C≠c.Wg
 hn:c.n<2147483648
 run:∀S g w,c.anch S g w→g.status= .running
 round:∀S g w,c.anch S g w→∃m,c.GP S (c.XW1 S) m g w
def IX (μ:Nat × (Nat→Rk) × Nat) (m:Machine) (t:Trace):Prop:=
 ∃(gs:Array Goroutine) (w:World) (sl:Option (Nat × Nat)) (j:Nat) (D:Nat→WD) (rk:Nat→Rk) (S:Nat→Nat→Prop) (tag:CTag) (f0 d0:Nat) (a:Goroutine) (st sm:Int),
  m=crowd gs w sl∧gs[0]? =some a∧c.CX tag j f0 (rk 0) d0 (S 0) a w∧c.Core j gs w t D rk S d0∧WgAt c.ty c.Wg w st sm∧Go.ConcN.Mode j D tag st sm∧μ=(phi c.n (Vc j D) tag+Ssum j D,rk,f0+2*Fsum j D)
end dR
section
variable [Payload] {c:dR}
theorem dR.RL.refl {S:Nat→Prop} (w:World):c.RL S w w:=⟨.refl w,id⟩
theorem dR.RL.trans {S:Nat→Prop}:∀a b d,c.RL S a b→c.RL S b d→c.RL S a d:=fun _ _ _ h h'=>⟨h.1.trans h'.1,h'.2 ∘ h.2⟩
theorem dR.CX.rely {tag:CTag} {j f d:Nat} {r:Rk} {S:Nat→Prop} {a:Goroutine} {w w':World} (h:c.CX tag j f r d S a w) (hr:c.RL S w w'):c.CX tag j f r d S a w':=by
 cases h with
 |g5 hn h=>exact .g5 hn (h.rely hr.1)
 |skd hn h=>exact .skd hn (Goes.rely dR.RL.trans h hr)
 |sa1 hn h=>exact .sa1 hn (Goes.rely dR.RL.trans h hr)
 |ske hn h=>exact .ske hn (Goes.rely dR.RL.trans h hr)
 |sgo hn h=>exact .sgo hn (Goes.rely dR.RL.trans h hr)
 |gk h=>exact .gk (h.rely hr.1)
 |kd h=>exact .kd (Goes.rely dR.RL.trans h hr)
 |anch h=>exact .anch (Goes.rely dR.RL.trans h hr)
 |w1 h=>exact .w1 (Goes.rely dR.RL.trans h hr)
 |w2 h=>exact .w2 (Goes.rely dR.RL.trans h hr)
 |w3 h=>exact .w3 (Goes.rely dR.RL.trans h hr)
 |blk h=>exact .blk (fun w₂ h₂=>h w₂ (dR.RL.trans _ _ _ hr h₂))
 |w4 h=>exact .w4 (Goes.rely dR.RL.trans h hr)
 |ke h=>exact .ke (Goes.rely dR.RL.trans h hr)
 |acq h=>exact .acq (Goes.rely dR.RL.trans h hr)
theorem dR.Gx.run:∀{r:Nat} (S:Nat→Prop) (g:Goroutine) (w:World),c.Gx r S g w→g.status= .running
 | 0,_,_,_,h=>h.1
 |_+1,_,_,_,h=>h.1
theorem dR.CX.status (G:c.Geo) {tag:CTag} {j f d:Nat} {r:Rk} {S:Nat→Prop} {a:Goroutine} {w:World} (h:c.CX tag j f r d S a w):(a.status= .running∧tag≠ .blk)∨(a.status= .blocked∧tag= .blk):=by
 cases h with
 |g5 _ h=>exact .inl ⟨h.running dR.Gx.run,by simp⟩
 |skd _ h=>exact .inl ⟨Goes.running (fun _ _ x=>x.1) w (.refl w) h,by simp⟩
 |sa1 _ h=>exact .inl ⟨Goes.running (fun _ _ x=>x.1) w (.refl w) h,by simp⟩
 |ske _ h=>exact .inl ⟨Goes.running (fun _ _ x=>x.1) w (.refl w) h,by simp⟩
 |sgo _ h=>exact .inl ⟨Goes.running (fun _ _ x=>x.1) w (.refl w) h,by simp⟩
 |gk h=>exact .inl ⟨h.running dR.Gx.run,by simp⟩
 |kd h=>exact .inl ⟨Goes.running (fun _ _ x=>x.1) w (.refl w) h,by simp⟩
 |anch h=>exact .inl ⟨Goes.running (G.run S) w (.refl w) h,by simp⟩
 |w1 h=>exact .inl ⟨Goes.running (fun _ _ x=>x.1) w (.refl w) h,by simp⟩
 |w2 h=>exact .inl ⟨Goes.running (fun _ _ x=>x.1) w (.refl w) h,by simp⟩
 |w3 h=>exact .inl ⟨Goes.running (fun _ _ x=>x.1) w (.refl w) h,by simp⟩
 |blk h=>exact .inr ⟨rfl,rfl⟩
 |w4 h=>exact .inl ⟨Goes.running (fun _ _ x=>x.1) w (.refl w) h,by simp⟩
 |ke h=>exact .inl ⟨Goes.running (fun _ _ x=>x.1) w (.refl w) h,by simp⟩
 |acq h=>exact .inl ⟨Goes.running (fun _ _ x=>x.1) w (.refl w) h,by simp⟩
theorem dR.CX.wokenBy (G:c.Geo) {tag:CTag} {j f d:Nat} {r:Rk} {S:Nat→Prop} {a:Goroutine} {w w':World} (h:c.CX tag j f r d S a w) (hr:c.RL S w w') (g g':Goroutine):
 ∃tag' f',c.CX tag' j f' r d S (woken c.P g g' w' a) w'∧f'≤f+1∧(tag'=tag∨(tag= .blk∧tag'= .w3))∧(mayWake c.P g=true→g'.status= .running→tag'≠ .blk):=by
 have h':=h.rely hr;unfold Go.Conc.woken;split
 ·rcases h'.status G with⟨hs,hne⟩|⟨_,rfl⟩
  ·exact⟨tag,f,by rw[again_running _ (.inl hs)];exact h',by omega,.inl rfl,fun _ _=>hne⟩
  ·cases h' with
   |blk hb=>have h3:=hb w' (.refl w');exact⟨.w3,0+1,by rw[again_blocked h3.1 h3.2.1];exact .w3 (Goes.stop hb),by omega,.inr ⟨rfl,rfl⟩,fun _ _=>by simp⟩
 ·rename_i hc;exact⟨tag,f,h',by omega,.inl rfl,fun h1 h2=>absurd (by simp[h1,h2]) hc⟩
theorem dR.CX.bound {tag:CTag} {j f d:Nat} {r:Rk} {S:Nat→Prop} {a:Goroutine} {w:World} (h:c.CX tag j f r d S a w):j+pend tag≤c.n:=by cases h<;>simp only[pend]<;>(try simp)<;>omega
theorem dR.WX.status {i:Nat} {d:WD} {r:Rk} {S:Nat→Prop} {g:Goroutine} {w:World} (h:c.WX i d r S g w):g.status= .running∨g.status= .finished:=by
 rcases h with⟨_,_,_,h⟩|⟨_,h⟩
 ·exact .inl (h.running fun _ _ _ x=>x.1)
 ·exact h.status
theorem dR.WX.running {i:Nat} {d:WD} {r:Rk} {S:Nat→Prop} {g:Goroutine} {w:World} (h:c.WX i d r S g w) (hs:d.stage≠1):g.status= .running:=by
 rcases h with⟨_,_,_,h⟩|⟨_,h⟩
 ·exact h.running fun _ _ _ x=>x.1
 ·exact h.running_of hs
theorem dR.WX.woken {i:Nat} {d:WD} {r:Rk} {S:Nat→Prop} {g:Goroutine} {w:World} (h:c.WX i d r S g w) (a a':Goroutine) (w':World):woken c.P a a' w' g=g:=by
 unfold Go.Conc.woken;split
 ·exact again_running _ h.status
 ·rfl
theorem dR.WX.rely {i:Nat} {d:WD} {r:Rk} {S:Nat→Prop} {g:Goroutine} {w w':World} (h:c.WX i d r S g w) (h1:RY (fun b=>c.Bs b∨S b) w w') (h2:RW c.ty c.Wg c.C c.n 0 i w w'):c.WX i d r S g w':=by
 rcases h with⟨a1,a2,a3,h⟩|⟨a1,h⟩
 ·exact .inl ⟨a1,a2,a3,h.rely h1⟩
 ·exact .inr ⟨a1,h.rely (by simpa using h2)⟩
theorem dR.Core.at {j:Nat} {gs:Array Goroutine} {w:World} {t:Trace} {D:Nat→WD} {rk:Nat→Rk} {S:Nat→Nat→Prop} {d0:Nat} (h:c.Core j gs w t D rk S d0) (d:Nat):c.Core j gs (w.at d) t D rk S d0:=
 ⟨h.env.at d,h.size,fun i hi=>let⟨g,hg,hs⟩:=h.wk i hi;⟨g,hg,hs.rely ⟨fun _ _=>rfl,Nat.le_refl _,rfl⟩ (RW.at w d)⟩,h.norel,h.deaf0,h.deafW,h.rel,h.has,h.pay,h.up⟩
theorem dR.Core.stepW (G:c.Geo) {j:Nat} {gs:Array Goroutine} {w w':World} {t:Trace} {D:Nat→WD} {rk:Nat→Rk} {S:Nat→Nat→Prop} {d0:Nat} (h:c.Core j gs w t D rk S d0) {i:Nat} (hi:i<j) {g g':Goroutine} {fn:FuncId} {pos:String} {es:Array Event} {s' m' dd':Nat} {r':Rk}
 (E:Eff c.ty c.Wg c.C c.n (i+1) (S (i+1)) w w') (hes:∀op∈MemOp.ofEvents (i+1) fn pos es,OkOp c.Wg c.C c.B0 (i+1) w'.heap.size (grown (S (i+1)) w w') op)
 (hs':c.WX i ⟨s',m',dd'⟩ r' (grown (S (i+1)) w w') g' w') (hnr:∀e∈es,e.loc≠ .mark (.release (stA c.Wg))) (hdeaf:deafBehind (D i).deaf es=dd')
 (hrel:s'≤6→∃r,oF c.Wg (t++MemOp.ofEvents (i+1) fn pos es) (i+1) r) (hhas:s'≤6→Has c.C i (c.val i) w'):
 c.Core j ((gs.map (woken c.P g g' w')).setIfInBounds (i+1) g') w' (t++MemOp.ofEvents (i+1) fn pos es) (upd D i ⟨s',m',dd'⟩) (upd rk (i+1) r') (grow S (i+1) w w') d0:=by
 refine⟨h.env.step G.hW G.hC G.hCW (by omega) E hes,by simp[h.size],fun i' hi'=>?_,h.norel.app (norel_of hnr),by rw[Deaf_other t (by omega) _ g_of_ofEvents,h.deaf0],fun i' hi'=>?_,fun i' hi' hst=>?_,fun i' hi' hst=>?_,E.pay h.pay,fun k b hk=>?_⟩
 ·by_cases e:i'=i
  ·subst e;exact⟨g',get_map_set_same _ _ _ (by rw[h.size];omega),by rw[upd_same,upd_same,iB];exact hs'⟩
  ·obtain⟨x,hx,hsx⟩:=h.wk i' hi';refine⟨x,by rw[get_map_set _ _ _ _ (by omega),hx,Option.map_some,hsx.woken],?_⟩;rw[upd_ne D _ e,upd_ne rk _ (by omega),ji _ _ _ (by omega)];exact hsx.rely (E.ry h.env G.hW G.hC (by omega)) (E.rw (by omega))
 ·by_cases e:i'=i
  ·subst e;rw[Deaf_own,h.deafW i' hi',upd_same];exact hdeaf
  ·rw[Deaf_other t (by omega) _ g_of_ofEvents,h.deafW i' hi',upd_ne D _ e]
 ·by_cases e:i'=i
  ·subst e;rw[upd_same]at hst;exact hrel hst
  ·rw[upd_ne D _ e]at hst;obtain⟨r,hr⟩:=h.rel i' hi' hst;exact⟨r,hr.other g_of_ofEvents (by omega)⟩
 ·by_cases e:i'=i
  ·subst e;rw[upd_same]at hst;exact hhas hst
  ·rw[upd_ne D _ e]at hst;exact(E.cells i' (by omega)).trans (h.has i' hi' hst)
 ·rw[ji _ _ _ (by omega)];exact h.up k b hk
theorem dR.Core.step0 (G:c.Geo) {j:Nat} {gs:Array Goroutine} {w w':World} {t:Trace} {D:Nat→WD} {rk:Nat→Rk} {S:Nat→Nat→Prop} {d0:Nat} (h:c.Core j gs w t D rk S d0) {a a':Goroutine} {fn:FuncId} {pos:String} {es:Array Event} {r':Rk}
 (E:Eff c.ty c.Wg c.C c.n 0 (S 0) w w') (hes:∀op∈MemOp.ofEvents 0 fn pos es,OkOp c.Wg c.C c.B0 0 w'.heap.size (grown (S 0) w w') op) (hnr:∀e∈es,e.loc≠ .mark (.release (stA c.Wg))):
 c.Core j ((gs.map (woken c.P a a' w')).setIfInBounds 0 a') w' (t++MemOp.ofEvents 0 fn pos es) D (upd rk 0 r') (grow S 0 w w') (deafBehind d0 es):=by
 refine⟨h.env.step G.hW G.hC G.hCW (by omega) E hes,by simp[h.size],fun i hi=>?_,h.norel.app (norel_of hnr),by rw[Deaf_own,h.deaf0],fun i hi=>by rw[Deaf_other t (by omega) _ g_of_ofEvents,h.deafW i hi],fun i hi hst=>?_,fun i hi hst=>(E.cells i (by omega)).trans (h.has i hi hst),E.pay h.pay,fun k b hk=>?_⟩
 ·obtain⟨x,hx,hsx⟩:=h.wk i hi;refine⟨x,by rw[get_map_set _ _ _ _ (by omega),hx,Option.map_some,hsx.woken],?_⟩;rw[upd_ne rk _ (by omega),ji _ _ _ (by omega)];exact hsx.rely (E.ry h.env G.hW G.hC (by omega)) (E.rw (by omega))
 ·obtain⟨r,hr⟩:=h.rel i hi hst;exact⟨r,hr.other g_of_ofEvents (by omega)⟩
 ·rw[ji _ _ _ (by omega)];exact h.up k b hk
end
end Go.Ren
namespace Go.Ren
open Go.Conc Go.ConcN
open Go.ConcR (KK wgBlock WgAt stA smA rd wr Payload Aside2 DC0 Bk g_of_ofEvents bk_of_mute ofEvent_loc_mark ofEvent_cell deafBehind_cons deafBehind_one ofEvent_mk again_blocked)
set_option linter.unusedSimpArgs false
set_option linter.unusedVariables false
set_option linter.unusedSectionVars false
def hand (S:Nat→Nat→Prop) (j:Nat):Nat→Nat→Prop:=fun k=>if k=j+1 then S 0 else if k=0 then fun _=>False else S k
section
variable [Payload] {c:dR} {j:Nat} {gs:Array Goroutine} {w w':World} {t:Trace} {D:Nat→WD} {rk:Nat→Rk} {S:Nat→Nat→Prop} {d0:Nat} {sl:Option (Nat × Nat)} {tag:CTag} {f0:Nat} {a:Goroutine} {st sm:Int}
theorem dR.Core.spawn (G:c.Geo) (h:c.Core j gs w t D rk S 0) {a' child:Goroutine} {x y:MemOp} {r' r0:Rk} (hx:x.g=0∧x.act= .go (j+1)) (hy:y.g=j+1∧y.act= .start)
 (hc:GT c.P false c.Bs (c.ES j) r' (S 0) child w):c.Core (j+1) ((gs.setIfInBounds 0 a').push child) w (t++ #[x,y]) (upd D j ⟨7,0,0⟩) (upd (upd rk (j+1) r') 0 r0) (hand S j) 0:=by
 have hm:∀op∈ #[x,y],op=x∨op=y:=by intro op hop;simpa using hop
 have hst:∀op∈ #[x,y],op.act≠ .mark .disable∧op.act≠ .mark .enable:=by
  intro op hop;rcases hm op hop with rfl|rfl
  ·rw[hx.2];exact⟨by simp,by simp⟩
  ·rw[hy.2];exact⟨by simp,by simp⟩
 have hnt:∀op∈ #[x,y],op.act.touch?=none:=by
  intro op hop;rcases hm op hop with rfl|rfl
  ·rw[hx.2];rfl
  ·rw[hy.2];rfl
 have e1:hand S j (j+1)=S 0:=by simp[hand]
 have e2:∀k,k≠0→k≠j+1→hand S j k=S k:=fun k h1 h2=>by simp[hand,h1,h2]
 have e3:∀b,¬hand S j 0 b:=fun b=>by simp[hand]
 have back:∀k b,hand S j k b→∃k',S k' b∧(k=j+1→k'=0)∧(k≠j+1→k'=k∧k≠0):=by
  intro k b hb;by_cases h1:k=j+1
  ·subst h1;rw[e1]at hb;exact⟨0,hb,fun _=>rfl,fun h=>absurd rfl h⟩
  ·by_cases h0:k=0
   ·subst h0;exact absurd hb (e3 b)
   ·rw[e2 k h0 h1]at hb;exact⟨k,hb,fun h=>absurd h h1,fun _=>⟨rfl,h0⟩⟩
 have own':∀k b,hand S j k b→c.B0≤b∧b<w.heap.size:=fun k b hb=>let⟨k',h1,_⟩:=back k b hb;h.env.own k' b h1;have KZ:∀k k' b,hand S j k b→hand S j k' b→k=k':=by
  intro k k' b h1 h2;obtain⟨u,a1,a2,a3⟩:=back k b h1;obtain⟨v,b1,b2,b3⟩:=back k' b h2;have:=h.env.Sq _ _ _ a1 b1;by_cases p:k=j+1<;>by_cases q:k'=j+1
  ·omega
  ·have:=a2 p;have:=b3 q;omega
  ·have:=a3 p;have:=b2 q;omega
  ·have:=a3 p;have:=b3 q;omega
 have A:=apart G.hW G.hC G.hCW (fun k b x=>(own' k b x).1) KZ;have ct1:CT (ShN c.Wg) (Ed c.C (hand S j)) (RdT c.Wg c.C c.B0) t j:=by
  refine JW h.env.ct (fun k l k1 kj hl=>?_) (fun k l k1 kj hl=>.inl ?_)
  ·simp only[Ed,e2 k (by omega) (by omega)];exact hl
  ·simp only[Ed,e2 k (by omega) (by omega)]at hl;exact hl
 refine⟨⟨own',KZ,h.env.low,h.env.base,h.env.os,h.env.o,h.env.tape,fun i z hz b hb=>?_,ct1.fork A hx hy h.deaf0⟩,by simp[h.size],fun i hi=>?_,h.norel.app fun op hop=>?_,by rw[Deaf_still t 0 _ hst,h.deaf0],fun i hi=>?_,fun i hi hs=>?_,fun i hi hs=>?_,h.pay,fun k b hk hb=>?_⟩
 ·obtain⟨op,ho,hz'⟩:=touch_of hz;rcases getElem?_append_cases ho with⟨_,ho'⟩|⟨_,hou⟩
  ·exact h.env.seen i z (by rw[touchAt_of ho'];exact hz') b hb
  ·rw[hnt op hou]at hz';cases hz'
 ·rcases Nat.lt_or_ge i j with hlt|hge
  ·obtain⟨g,hg,hsg⟩:=h.wk i hlt;refine⟨g,?_,by rw[upd_ne D _ (by omega),upd_ne _ _ (by omega),upd_ne _ _ (by omega),e2 _ (by omega) (by omega)];exact hsg⟩;rw[Array.getElem?_push_lt (by simp[h.size];omega), ←Array.getElem?_eq_getElem,Array.getElem?_setIfInBounds_ne (by omega)];exact hg
  ·obtain rfl:i=j:=by omega
   refine⟨child,?_,by rw[upd_same,upd_ne _ _ (by omega),upd_same,e1];exact .inl ⟨rfl,rfl,rfl,hc⟩⟩;rw[show i+1=(gs.setIfInBounds 0 a').size by simp[h.size],Array.getElem?_push_size]
 ·rcases hm op hop with rfl|rfl
  ·rw[hx.2];simp
  ·rw[hy.2];simp
 ·rw[Deaf_still t _ _ hst];rcases Nat.lt_or_ge i j with hlt|hge
  ·rw[h.deafW i hlt,upd_ne D _ (by omega)]
  ·obtain rfl:i=j:=by omega
   rw[upd_same];exact Deaf_absent fun a op ha e=>by have:=h.env.ct.gs a op ha;omega
 ·rcases Nat.lt_or_ge i j with hlt|hge
  ·rw[upd_ne D _ (by omega)]at hs;obtain⟨r,hr⟩:=h.rel i hlt hs;refine⟨r,hr.not fun op hop=>?_⟩;rcases hm op hop with rfl|rfl
   ·rw[hx.1];omega
   ·rw[hy.1];omega
  ·obtain rfl:i=j:=by omega
   rw[upd_same]at hs;simp at hs
 ·rcases Nat.lt_or_ge i j with hlt|hge
  ·rw[upd_ne D _ (by omega)]at hs;exact h.has i hlt hs
  ·obtain rfl:i=j:=by omega
   rw[upd_same]at hs;simp at hs
 ·rw[e2 k (by omega) (by omega)]at hb;exact h.up k b (by omega) hb
theorem dR.workerStep (G:c.Geo) (ha:gs[0]? =some a) (hcs:c.CX tag j f0 (rk 0) d0 (S 0) a w) (h:c.Core j gs w t D rk S d0) {i:Nat} (hi:i<j) {g g':Goroutine} {es:Array Event} {s' m' dd':Nat} {r':Rk} {st' sm':Int} (hg:gs[i+1]? =some g)
 (hgo:stepG c.P false g w= .go g' w' es) (E:Eff c.ty c.Wg c.C c.n (i+1) (S (i+1)) w w') (hes:∀e∈es,OkOp c.Wg c.C c.B0 (i+1) w'.heap.size (grown (S (i+1)) w w') {g:=i+1,fn:=g.frame.fn,pos:=g.frame.place,act:=.ofEvent e})
 (hs':c.WX i ⟨s',m',dd'⟩ r' (grown (S (i+1)) w w') g' w') (hnr:∀e∈es,e.loc≠ .mark (.release (stA c.Wg))) (hdeaf:deafBehind (D i).deaf es=dd')
 (hrel:s'≤6→∃r,oF c.Wg (t++MemOp.ofEvents (i+1) g.frame.fn g.frame.place es) (i+1) r) (hhas:s'≤6→Has c.C i (c.val i) w') (hwg:WgAt c.ty c.Wg w' st' sm')
 (hmode:∀tag',(tag'=tag∨(tag= .blk∧tag'= .w3))→(mayWake c.P g=true→g'.status= .running→tag'≠ .blk)→Go.ConcN.Mode j (upd D i ⟨s',m',dd'⟩) tag' st' sm')
 (hlt:(s'<(D i).stage∧cnt ⟨s',m',dd'⟩≤cnt (D i))∨(s'=(D i).stage∧(Rk.Lt r' (rk (i+1))∨(r'=rk (i+1)∧m'+1=(D i).fuel)))):
 ∃m₁ ops μ',runT c.P (crowd gs w sl) (i+1)=(.next m₁,ops)∧Lt3 (c.n+1) μ' (phi c.n (Vc j D) tag+Ssum j D,rk,f0+2*Fsum j D)∧c.IX μ' m₁ (t++ops):=by
 obtain⟨tag',f',hcs',hf',htag,hwk⟩:=hcs.wokenBy G ⟨E.ry h.env G.hW G.hC (by omega),E.live⟩ g g';have hb:=hcs.bound;have hrun:=runT_crowd_go (P:=c.P) (sl:=sl) (i:=i+1) hg (by simpa using hgo);have e1:=sumTo_upd D (⟨s',m',dd'⟩:WD) cnt hi;have e2:=sumTo_upd D (⟨s',m',dd'⟩:WD) WD.stage hi;have e3:=sumTo_upd D (⟨s',m',dd'⟩:WD) WD.fuel hi
 refine⟨_,_,(phi c.n (Vc j (upd D i ⟨s',m',dd'⟩)) tag'+Ssum j (upd D i ⟨s',m',dd'⟩),upd rk (i+1) r',f'+2*Fsum j (upd D i ⟨s',m',dd'⟩)),hrun,?_,
  _,w',sl,j,upd D i ⟨s',m',dd'⟩,upd rk (i+1) r',grow S (i+1) w w',tag',f',d0,woken c.P g g' w' a,st',sm',rfl,by rw[get_map_set _ _ _ _ (by omega),ha];rfl,
  by rw[upd_ne rk _ (by omega),ji _ _ _ (by omega)];exact hcs',h.stepW G hi E (Ig hes) hs' hnr hdeaf hrel hhas,hwg,hmode tag' htag hwk,rfl⟩
 rw[phi_retag c.n _ htag];simp only[Vc,Ssum,Fsum]at*;rcases hlt with⟨h1,h2⟩|⟨h1,h2⟩
 ·refine Lt3.one ?_;have:=phi_mono c.n (v':=sumTo j fun a=>cnt (upd D i ⟨s',m',dd'⟩ a)) (v:=sumTo j fun a=>cnt (D a)) (by omega) tag;omega
 ·have ec:cnt (⟨s',m',dd'⟩:WD)=cnt (D i):=by simp only[cnt,h1]
  have ev:(sumTo j fun a=>cnt (upd D i ⟨s',m',dd'⟩ a))=sumTo j fun a=>cnt (D a):=by omega
  have es':(sumTo j fun a=>(upd D i ⟨s',m',dd'⟩ a).stage)=sumTo j fun a=>(D a).stage:=by omega
  rw[ev,es'];rcases h2 with h2|⟨h2,h3⟩
  ·exact Lt3.two rfl ⟨i+1,by omega,by rw[upd_same];exact h2,fun k hk=>upd_ne rk _ hk⟩
  ·refine Lt3.three rfl ?_ (by omega);funext k;by_cases e:k=i+1
   ·subst e;rw[upd_same];exact h2
   ·rw[upd_ne rk _ e]
theorem Qe {α:Type} (f:Nat→α) (i:Nat):upd f i (f i)=f:=by
 funext k;by_cases e:k=i
 ·subst e;rw[upd_same]
 ·rw[upd_ne f _ e]
theorem dR.callerStep (G:c.Geo) (ha:gs[0]? =some a) (h:c.Core j gs w t D rk S d0) {a':Goroutine} {es:Array Event} {tag':CTag} {f':Nat} {r':Rk} {st' sm':Int} (hgo:stepG c.P true a w= .go a' w' es)
 (E:Eff c.ty c.Wg c.C c.n 0 (S 0) w w') (hes:∀e∈es,OkOp c.Wg c.C c.B0 0 w'.heap.size (grown (S 0) w w') {g:=0,fn:=a.frame.fn,pos:=a.frame.place,act:=.ofEvent e}) (hnr:∀e∈es,e.loc≠ .mark (.release (stA c.Wg)))
 (hcs':c.CX tag' j f' r' (deafBehind d0 es) (grown (S 0) w w') a' w') (hwg:WgAt c.ty c.Wg w' st' sm') (hmode:Go.ConcN.Mode j D tag' st' sm')
 (hlt:phi c.n (Vc j D) tag'<phi c.n (Vc j D) tag∨(phi c.n (Vc j D) tag'=phi c.n (Vc j D) tag∧(Rk.Lt r' (rk 0)∨(r'=rk 0∧f'<f0)))):
 ∃m₁ ops μ',runT c.P (crowd gs w sl) 0=(.next m₁,ops)∧Lt3 (c.n+1) μ' (phi c.n (Vc j D) tag+Ssum j D,rk,f0+2*Fsum j D)∧c.IX μ' m₁ (t++ops):=by
 have hrun:=runT_crowd_go (P:=c.P) (sl:=sl) (i:=0) ha (by simpa using hgo)
 refine⟨_,_,(phi c.n (Vc j D) tag'+Ssum j D,upd rk 0 r',f'+2*Fsum j D),hrun,?_,
  _,w',sl,j,D,upd rk 0 r',grow S 0 w w',tag',f',deafBehind d0 es,a',st',sm',rfl,get_map_set_same _ _ _ (by rw[h.size];omega),by rw[upd_same,iB];exact hcs',h.step0 G E (Ig hes) hnr,hwg,hmode,rfl⟩
 rcases hlt with h1|⟨h1,h2|⟨h2,h3⟩⟩
 ·exact Lt3.one (by omega)
 ·rw[h1];exact Lt3.two rfl ⟨0,by omega,by rw[upd_same];exact h2,fun k hk=>upd_ne rk _ hk⟩
 ·rw[h1];exact Lt3.three rfl (by rw[h2];exact Qe rk 0) (by omega)
end
end Go.Ren
