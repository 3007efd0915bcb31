import Derived.Test.YtheibfffilomcabGreatDoorS8U
import Derived.Conc.WgGenN3
import Derived.Conc.Company
set_option linter.all false
set_option maxRecDepth 100000
set_option maxHeartbeats 8000000
namespace Go.Ren
open Go.Conc Go.ConcN
open Go.ConcR (KK wgBlock WgAt stA smA rd wr Payload Aside2 DC0 Bk g_of_ofEvents bk_of_mute ofEvent_loc_mark ofEvent_cell deafBehind_cons deafBehind_one ofEvent_mk again_blocked)
set_option linter.unusedSimpArgs false
set_option linter.unusedVariables false
set_option linter.unusedSectionVars false
section
variable [Payload] {c:dR}
theorem dR.step (G:c.Geo):∀μ m t,c.IX μ m t→(∃m' ops,stepT c.P m=(.next m',ops)∧c.DX m' (t++ops))∨(∃m' ops μ',stepT c.P m=(.next m',ops)∧Lt3 (c.n+1) μ' μ∧c.IX μ' m' (t++ops)):=by
 rintro μ m t ⟨gs,w,sl,j,D,rk,S,tag,f0,d0,a,st,sm,rfl,ha,hcs,h,hwg,hmode,rfl⟩;have aw:∀g∈gs,awake g:=by
  intro g hg tm;obtain⟨i,hi⟩:=Array.mem_iff_getElem?.1 hg;cases i with
  |zero=>rw[ha]at hi;cases hi;rcases hcs.status G with⟨hs,_⟩|⟨hs,_⟩<;>rw[hs]<;>simp
  |succ i=>
   have hlt:i<j:=by have:=(Array.getElem?_eq_some_iff.1 hi).1;rw[h.size]at this;omega
   obtain⟨g',hg',hs⟩:=h.wk i hlt;rw[hi]at hg';cases hg';rcases hs.status with h|h<;>rw[h]<;>simp
 have some1:∃(i:Nat) (g:Goroutine),gs[i]? =some g∧g.status= .running:=by
  rcases hcs.status G with⟨hs,_⟩|⟨_,rfl⟩
  ·exact⟨0,a,ha,hs⟩
  ·cases hmode with
   |opn h1 _ _=>exact h1.elim
   |reg _ _ h3=>obtain⟨i,hi,h5⟩:=exists_counted h3;obtain⟨g,hg,hs⟩:=h.wk i hi;exact⟨i+1,g,hg,hs.running (by omega)⟩
   |last L _ h2 h3 _=>obtain⟨g,hg,hs⟩:=h.wk L h2;exact⟨L+1,g,hg,hs.running (by omega)⟩
   |fin h1 _=>exact h1.elim
 obtain⟨i,g,d,sl',hg,hrun,hstep⟩:=crowd_pick (P:=c.P) (w:=w) (sl:=sl) aw some1;rw[hstep];have hcs':=hcs.rely (w':=w.at d) ⟨⟨fun _ _=>rfl,Nat.le_refl _,rfl⟩,id⟩;have h':=h.at d;have hwg':WgAt c.ty c.Wg (w.at d) st sm:=hwg;cases i with
 |zero=>rw[ha]at hg;cases hg;exact dR.stepCaller (sl:=sl') G ha hcs' h' hwg' hmode hrun
 |succ i=>
  have hi:i<j:=by have:=(Array.getElem?_eq_some_iff.1 hg).1;rw[h.size]at this;omega
  exact .inr (dR.stepWorker G ha hcs' h' hwg' hmode hi hg hrun)
theorem dR.runs (G:c.Geo) {μ:Nat × (Nat→Rk) × Nat} {m:Machine} {t:Trace} (h:c.IX μ m t):∃N m' t',runNT c.P N m t=(.next m',t')∧c.DX m' t':=by
 induction μ using(lt3_wf (c.n+1)).induction generalizing m t with
 |_ μ ih=>
  rcases dR.step G μ m t h with⟨m',ops,h1,h2⟩|⟨m',ops,μ',h1,h2,h3⟩
  ·exact⟨1,m',t++ops,by simp only[runNT,h1],h2⟩
  ·obtain⟨N,m2,t2,h4,h5⟩:=ih μ' h2 h3;exact⟨N+1,m2,t2,by simp only[runNT,h1];exact h4,h5⟩
end
end Go.Ren
namespace Go.Ren
open Go.Conc Go.ConcN Go.RowKit Go.Conc.Lib Go.ConcR.Gen Go.ConcN.Gen
open Go.ConcR (KK wgBlock WgAt stA smA rd wr Payload Aside2 DC0 Bk)
set_option linter.unusedSimpArgs false
set_option linter.unusedVariables false
set_option linter.unusedSectionVars false
section
variable [Payload] {c:dR} {S:Nat→Prop} {Stop:Goroutine→World→Prop}
theorem fP {R:World→World→Prop}:∀{m:Nat} {g:Goroutine} {w:World},Goes c.P true R DC0 Stop m g w→Goes c.P true R c.DS Stop m g w
 | 0,_,_,h=>h
 |m+1,g,w,h=>by
  rcases h with h|⟨hr,h⟩
  ·exact .inl h
  ·refine .inr ⟨hr,fun w₁ r=>?_⟩;obtain⟨g',w',es,e,⟨h1,h2⟩,h3⟩:=goes_elim (h w₁ r);rw[e];exact⟨⟨h1,by rw[h2];simp⟩,fP h3⟩
theorem oL {R:World→World→Prop} {Mid:Goroutine→World→Prop} (hR:∀w,R w w) {k:Nat} (hm:∀g w,Mid g w→Goes c.P true R c.DS Stop k g w):∀{m:Nat} {g:Goroutine} {w:World},Goes c.P true R DC0 Mid m g w→Goes c.P true R c.DS Stop (m+k) g w
 | 0,g,w,h=>by rw[Nat.zero_add];exact hm _ _ (h w (hR w))
 |m+1,g,w,h=>by
  rcases h with h|⟨hr,h⟩
  ·exact Goes.mono (hm _ _ (h w (hR w))) (by omega)
  ·rw[Nat.add_right_comm];refine .inr ⟨hr,fun w₁ r=>?_⟩;obtain⟨g',w',es,e,⟨h1,h2⟩,h3⟩:=goes_elim (h w₁ r);rw[e];exact⟨⟨h1,by rw[h2];simp⟩,oL hR hm h3⟩
def NQ (c:dR) [Payload] (S:Nat→Prop) (Stop:Goroutine→World→Prop) (k:Nat) (g:Goroutine) (w:World):Prop:=
 g.status= .running∧∀w₁,c.RL S w w₁→∃g',(∃e,stepG c.P true g w₁= .go g' w₁ #[e]∧Said c.Wg e)∧Goes c.P true (c.RL S) c.DS Stop k g' w₁
theorem Bf {k:Nat} {g:Goroutine} {w:World} (h:NQ c S Stop k g w):Goes c.P true (c.RL S) c.DS Stop (k+1) g w:=by refine .inr ⟨h.1,fun w₁ r=>?_⟩;obtain⟨g',⟨e,h1,h2⟩,h3⟩:=h.2 w₁ r;rw[h1];exact⟨⟨rfl,fun x hx=>by rw[Array.mem_singleton]at hx;subst hx;exact h2⟩,h3⟩
end
end Go.Ren
namespace Go.Ren
open Go.Conc Go.ConcN Go.RowKit Go.Conc.Lib Go.ConcR.Gen Go.ConcN.Gen
open Go.ConcR (KK wgBlock WgAt stA smA rd wr Payload Aside2 DC0 Bk)
set_option linter.unusedSimpArgs false
set_option linter.unusedVariables false
set_option linter.unusedSectionVars false
section
variable [Payload] {c:dR} {S:Nat→Prop} {L:WgLink} {F:World→Prop} {j:Nat} {Next:Goroutine→World→Prop}
 {b₀:Frame} {a₀:Act} {ops₀:Array Oper} {i₀:Nat} {rest₀:List Nat} {k₀:List Item} {cs:List Frame} {mT:Nat}
theorem NR (H:WgLib c.P L) (hty:c.ty=L.tWg) (hF2:∀w w',c.RL S w w'→F w→F w') (hFs:∀w v,F w→F (w.setCell (stA c.Wg) v))
 (hT:∀w,F w→WgLive c.ty c.Wg w→Goes c.P true (c.RL S) c.DS (c.XGo S j Next) mT (G (b₀.at (a₀.put ((ops₀[i₀]?).bind (·.dst)) (.tuple #[])) (.inRegion ops₀ rest₀::k₀)) cs) w)
 (w:World) (hF:F w∧WgLive c.ty c.Wg w):
 c.GP S (c.QH S j Next) 12 (G ((base L.add).at ⟨#[.pointer (some ⟨c.Wg,0,none⟩),.int .i64 1,undef,undef,undef,undef,undef,undef,undef,undef,undef,undef,undef,undef,undef,undef,undef,undef,undef,undef,undef,undef,undef,undef,undef,undef,undef,undef,undef,undef,undef,undef,undef,undef,undef,undef,undef,undef,undef,undef,undef,undef,undef,undef,undef,undef,undef,undef,undef,undef,undef,undef,undef,undef,undef,undef,undef,undef,undef,undef,undef,undef,undef,undef,undef,undef,undef,undef,undef,undef,undef,undef,undef,undef,undef,undef,undef,undef,undef,undef,undef,undef,undef,undef,undef,undef,undef,undef,undef,undef,undef,undef,undef,undef,undef,undef,undef,undef,undef,undef,undef,undef,undef,undef,undef,undef,undef,undef,undef,undef,undef,undef,undef,undef,undef,undef,undef],[]⟩ [.code (body_add L)]) (b₀.at a₀ (.inRegion ops₀ (i₀::rest₀)::k₀)::cs)) w:=by
 have rl:∀{w w₁:World},(F w∧WgLive c.ty c.Wg w)→c.RL S w w₁→(F w₁∧WgLive c.ty c.Wg w₁):=fun h r=>⟨hF2 _ _ r h.1,r.2 h.2⟩
 lib_facts
 refine fP ?_;simp only[body_add,addFn,Option.getD_some]
 u_c stepG_seq rl hF;u_cond true rl hF;u_c stepG_seq rl hF;u_c stepG_seq rl hF;u_reg rl hF;u_op rl hF;u_op rl hF;u_c stepG_region_end rl hF;u_cond false rl hF
 u_c stepG_skip rl hF;u_c stepG_seq rl hF;u_reg rl hF
 refine Goes.stop (fun w₁ hx=>?_)
 replace hF:=rl hF hx
 clear hx;refine⟨rfl,_,stepG_mark0 .disable (by simp) rfl rfl (by k_ne) rfl H.f_disable (x_disable_n L) (x_disable_b L) (x_disable_x L) (x_disable_f L),40,fP ?_⟩
 walk_nrm
 u_c stepG_region_end rl hF;u_reg rl hF;u_defer rl hF;u_c stepG_region_end rl hF;u_c stepG_seq rl hF;u_reg rl hF;u_op rl hF;u_c stepG_region_end rl hF;u_c stepG_seq rl hF
 u_c stepG_seq rl hF;u_reg rl hF;u_bub rl hF;u_c stepG_region_end rl hF;u_cond false rl hF;u_c stepG_skip rl hF;u_c stepG_seq rl hF;u_reg rl hF;u_op rl hF;u_op rl hF
 u_op rl hF;u_op rl hF;u_op rl hF;u_op rl hF
 u_call H.f_uAdd (nm_uAdd L) uAddFn rl hF
 u_c stepG_seq rl hF;u_reg rl hF;u_op rl hF;u_c stepG_region_end rl hF;u_c stepG_seq rl hF;u_reg rl hF;u_op rl hF;u_op rl hF;u_op rl hF;u_op rl hF
 refine Goes.stop (fun w₂ hx=>?_)
 replace hF:=rl hF hx
 clear hx;refine⟨rfl,fun v hv hw=>?_⟩;rcases Nat.eq_zero_or_pos v with rfl|hvp
 ·replace hw:WgAt c.ty c.Wg w₂ 0 0:=by simpa using hw
  have z:(((0:Nat):Int)+1)*KK=KK:=by simp
  rw[z];have e0:IntKind.u64.wrap (0+4294967296)=KK:=by decide
  refine⟨_,(stepG_add_atomic rfl rfl (by k_ne) rfl H.f_addU64 (x_addU64_n L) (x_addU64_b L) (x_addU64_x L) .u64 (x_addU64_f L) rfl rfl hw.cellSt (hw.thaw 0)).trans (by rw[e0];rfl),80+(60+1),?_⟩
  replace hF:F (w₂.setCell (stA c.Wg) (.int .u64 KK))∧WgLive c.ty c.Wg (w₂.setCell (stA c.Wg) (.int .u64 KK)):=⟨hFs _ _ hF.1,⟨_,_,hw.setSt _⟩⟩
  clear hw;simp only[KK]at hF ⊢
  walk_nrm
  refine oL (Mid:=NQ c S (c.Tx S j Next) 60) dR.RL.refl (fun g w h=>Bf h) ?_
  u_op rl hF;u_c stepG_region_end rl hF;u_c stepG_ret' rl hF
  u_leave1 H.f_uAdd rl hF
  u_op rl hF;u_c stepG_region_end rl hF;u_c stepG_seq rl hF;u_c stepG_seq rl hF;u_reg rl hF;u_op rl hF;u_op rl hF;u_op rl hF;u_op rl hF;u_skip rl hF;u_skip rl hF;u_op rl hF
  u_c stepG_region_end rl hF;u_cond false rl hF;u_c stepG_skip rl hF;u_c stepG_seq rl hF;u_reg rl hF;u_op rl hF;u_op rl hF;u_op rl hF;u_op rl hF;u_c stepG_region_end rl hF
  u_c stepG_seq rl hF;u_reg rl hF;u_op rl hF;u_op rl hF;u_op rl hF;u_op rl hF;u_c stepG_region_end rl hF;u_c stepG_seq rl hF;u_c stepG_seq rl hF;u_reg rl hF;u_op rl hF
  u_op rl hF;u_op rl hF;u_op rl hF;u_op rl hF;u_op rl hF;u_op rl hF;u_op rl hF;u_op rl hF;u_op rl hF;u_c stepG_region_end rl hF;u_cond true rl hF;u_reg rl hF;u_op rl hF
  u_op rl hF;u_op rl hF
  u_in rl hF
  refine goes_oper_k rfl rfl (by k_ne) (fun Kx hKx=>?_);have hcv:=run_convert_to_unsafe (P:=c.P) H.underlying_tPU32 H.underlying_tUP H.room_tU32 (WgLive.cell1 hF.2).choose_spec;have hce:=fun es=>events_convert_to_unsafe (P:=c.P) H.underlying_tPU32 H.underlying_tUP H.room_tU32 (WgLive.cell1 hF.2).choose_spec es;go_simp;refine hKx _ _ ⟨?_,?_⟩
  ·u_none;intro ex hex;have hmx:=mem_listed hex;simp[go_sem,hce]at hmx
  clear hKx Kx hcv hce;refine Goes.stop (fun wx hx=>⟨rfl,fun wy hy=>?_⟩)
  replace hF:=rl (rl hF hx) hy
  clear hx hy;refine⟨_,⟨_,stepG_markAt .read (by simp) rfl rfl (by k_ne) rfl H.f_raceRead (x_raceRead_n L) (x_raceRead_b L) (x_raceRead_x L) (x_raceRead_f L) (ad:=⟨c.Wg,1,none⟩) (by simp[Act.eval]),⟨_,.inl rfl,rfl⟩⟩,fP ?_⟩
  walk_nrm
  u_c stepG_region_end rl hF;u_c stepG_seq rl hF;u_c stepG_seq rl hF;u_reg rl hF;u_op rl hF;u_op rl hF;u_c stepG_region_end rl hF;u_cond false rl hF;u_c stepG_skip rl hF
  u_c stepG_seq rl hF;u_c stepG_seq rl hF;u_reg rl hF;u_op rl hF;u_op rl hF;u_op rl hF;u_skip rl hF;u_skip rl hF;u_op rl hF;u_op rl hF;u_skip rl hF;u_skip rl hF
  u_skip rl hF;u_skip rl hF;u_op rl hF;u_c stepG_region_end rl hF;u_cond false rl hF;u_c stepG_skip rl hF;u_c stepG_seq rl hF;u_c stepG_seq rl hF;u_reg rl hF;u_op rl hF
  u_op rl hF;u_op rl hF;u_skip rl hF;u_skip rl hF;u_op rl hF;u_c stepG_region_end rl hF;u_cond true rl hF;u_c stepG_ret' rl hF
  refine Goes.stop (fun w₃ hx=>?_)
  replace hF:=rl hF hx
  clear hx;refine⟨rfl,_,stepG_unwind_entry (v:=.tuple #[]) (evs:=#[Go.ConcR.mk .enable]) rfl H.f_enable (x_enable_n L) (x_enable_b L) (x_enable_x L) (x_enable_f L) (by simp[Extern.Race.none_]) (by simp[Go.ConcR.mk]) (by simp[Go.ConcR.mk]),1+mT,?_⟩;refine oL (Mid:=fun g w=>g=G (b₀.at (a₀.put ((ops₀[i₀]?).bind (·.dst)) (.tuple #[])) (.inRegion ops₀ rest₀::k₀)) cs∧F w∧WgLive c.ty c.Wg w) dR.RL.refl (fun g w h=>by rw[h.1];exact hT w h.2.1 h.2.2) ?_
  u_leave0 H.f_add rl hF
  exact Goes.stop (fun wx hx=>⟨rfl,rl hF hx⟩)
 ·obtain⟨V,hV⟩:∃V:Int,V=(v:Int)+1:=⟨_,rfl⟩;obtain⟨T,hS⟩:∃T:Int,T=V*KK:=⟨_,rfl⟩;have eS:IntKind.u64.wrap ((v:Int)*KK+4294967296)=T:=by rw[IntKind.wrap_u64,hS,hV];simp only[KK];omega
  rw[←hV, ←hS];have a1:T / 4294967296=V:=by rw[hS];simp only[KK];omega
  have b1:bits .and .u64 T 2147483648=0:=by rw[hS,hV];have:=st_flag (v+1) 0 (by omega) (by omega);simpa[KK]using this
  have b2:bits .and .u64 T 2147483647=0:=by rw[hS,hV];have:=st_waiters (v+1) 0 (by omega) (by omega);simpa[KK]using this
  have c1:IntKind.i32.wrap V=V:=by rw[IntKind.wrap_i32];omega
  have hV1:1<V:=by omega
  have hV2:V<2147483648:=by omega
  have q1:(V==1)=false:=by simp;omega
  have q2:decide (V=1)=false:=decide_eq_false (by omega);have q3:decide (V<0)=false:=decide_eq_false (by omega);have q4:decide (0<V)=true:=decide_eq_true (by omega);have q5:(V==0)=false:=by simp;omega
  have q6:decide (V=0)=false:=decide_eq_false (by omega);refine⟨_,(stepG_add_atomic rfl rfl (by k_ne) rfl H.f_addU64 (x_addU64_n L) (x_addU64_b L) (x_addU64_x L) .u64 (x_addU64_f L) rfl rfl hw.cellSt (hw.thaw 0)).trans (by rw[eS];rfl),110,fP ?_⟩
  replace hF:F (w₂.setCell (stA c.Wg) (.int .u64 T))∧WgLive c.ty c.Wg (w₂.setCell (stA c.Wg) (.int .u64 T)):=⟨hFs _ _ hF.1,⟨_,_,hw.setSt _⟩⟩
  clear hw hS hV eS
  walk_nrm
  u_op rl hF;u_c stepG_region_end rl hF;u_c stepG_ret' rl hF
  u_leave1 H.f_uAdd rl hF
  u_op rl hF;u_c stepG_region_end rl hF;u_c stepG_seq rl hF;u_c stepG_seq rl hF;u_reg rl hF;u_op rl hF;u_op rl hF;u_op rl hF;u_op rl hF;u_skip rl hF;u_skip rl hF;u_op rl hF
  u_c stepG_region_end rl hF;u_cnd false rl hF;u_c stepG_skip rl hF;u_c stepG_seq rl hF;u_reg rl hF;u_op rl hF;u_op rl hF;u_op rl hF;u_op rl hF;u_c stepG_region_end rl hF
  u_c stepG_seq rl hF;u_reg rl hF;u_op rl hF;u_op rl hF;u_op rl hF;u_op rl hF;u_c stepG_region_end rl hF;u_c stepG_seq rl hF;u_c stepG_seq rl hF;u_reg rl hF;u_op rl hF
  u_op rl hF;u_op rl hF;u_op rl hF;u_op rl hF;u_op rl hF;u_op rl hF;u_op rl hF;u_op rl hF;u_op rl hF;u_c stepG_region_end rl hF;u_cnd false rl hF;u_c stepG_skip rl hF
  u_c stepG_seq rl hF;u_c stepG_seq rl hF;u_reg rl hF;u_op rl hF;u_op rl hF;u_c stepG_region_end rl hF;u_cnd false rl hF;u_c stepG_skip rl hF;u_c stepG_seq rl hF
  u_c stepG_seq rl hF;u_reg rl hF;u_op rl hF;u_op rl hF;u_op rl hF;u_skip rl hF;u_skip rl hF;u_op rl hF;u_op rl hF;u_skip rl hF;u_skip rl hF;u_skip rl hF;u_skip rl hF
  u_op rl hF;u_c stepG_region_end rl hF;u_cnd false rl hF;u_c stepG_skip rl hF;u_c stepG_seq rl hF;u_c stepG_seq rl hF;u_reg rl hF;u_op rl hF;u_op rl hF;u_op rl hF
  u_skip rl hF;u_skip rl hF;u_op rl hF;u_c stepG_region_end rl hF;u_cnd true rl hF;u_c stepG_ret' rl hF
  refine Goes.stop (fun w₃ hx=>?_)
  replace hF:=rl hF hx
  clear hx;refine⟨rfl,_,stepG_unwind_entry (v:=.tuple #[]) (evs:=#[Go.ConcR.mk .enable]) rfl H.f_enable (x_enable_n L) (x_enable_b L) (x_enable_x L) (x_enable_f L) (by simp[Extern.Race.none_]) (by simp[Go.ConcR.mk]) (by simp[Go.ConcR.mk]),1+mT,?_⟩;refine oL (Mid:=fun g w=>g=G (b₀.at (a₀.put ((ops₀[i₀]?).bind (·.dst)) (.tuple #[])) (.inRegion ops₀ rest₀::k₀)) cs∧F w∧WgLive c.ty c.Wg w) dR.RL.refl (fun g w h=>by rw[h.1];exact hT w h.2.1 h.2.2) ?_
  u_leave0 H.f_add rl hF
  exact Goes.stop (fun wx hx=>⟨rfl,rl hF hx⟩)
end
end Go.Ren
namespace Go.Ren
open Go.Conc Go.ConcN Go.RowKit Go.Conc.Lib Go.ConcR.Gen Go.ConcN.Gen
open Go.ConcR (KK wgBlock WgAt stA smA rd wr Payload Aside2 DC0 Bk)
set_option linter.unusedSimpArgs false
set_option linter.unusedVariables false
set_option linter.unusedSectionVars false
section
variable [Payload] {c:dR} {S:Nat→Prop} {L:WgLink}
 {b₀:Frame} {a₀:Act} {ops₀:Array Oper} {i₀:Nat} {rest₀:List Nat} {k₀:List Item} {cs:List Frame} {mT:Nat}
def AnX (c:dR) [Payload] (L:WgLink) (f:Frame) (cs:List Frame) (g:Goroutine) (w:World):Prop:=
 ∃T:Array Value,g=G ((base L.wait).at ⟨T,[]⟩ [.code (L7 L),.inLoop (L7 L),.inBlock 0]) (f::cs)∧T.size=84∧T[0]? =some (.pointer (some ⟨c.Wg,0,none⟩))∧WgLive c.ty c.Wg w
def Td (c:dR) (rec:Goroutine) (g:Goroutine) (w:World):Prop:=Goes c.P true AtRel DC0 (fun g' _=>g'=rec) 30 g w
theorem Je (H:WgLib c.P L) (hA:∀g w,AnX c L (b₀.at a₀ (.inRegion ops₀ (i₀::rest₀)::k₀)) cs g w→c.anch S g w) (w:World) (hF:WgLive c.ty c.Wg w):
 c.GP S (c.XKd S) 3 (G ((base L.wait).at ⟨#[.pointer (some ⟨c.Wg,0,none⟩),undef,undef,undef,undef,undef,undef,undef,undef,undef,undef,undef,undef,undef,undef,undef,undef,undef,undef,undef,undef,undef,undef,undef,undef,undef,undef,undef,undef,undef,undef,undef,undef,undef,undef,undef,undef,undef,undef,undef,undef,undef,undef,undef,undef,undef,undef,undef,undef,undef,undef,undef,undef,undef,undef,undef,undef,undef,undef,undef,undef,undef,undef,undef,undef,undef,undef,undef,undef,undef,undef,undef,undef,undef,undef,undef,undef,undef,undef,undef,undef,undef,undef,undef],[]⟩ [.code (body_wait L)]) (b₀.at a₀ (.inRegion ops₀ (i₀::rest₀)::k₀)::cs)) w:=by
 have rl:∀{w w₁:World},WgLive c.ty c.Wg w→c.RL S w w₁→WgLive c.ty c.Wg w₁:=fun h r=>r.2 h
 lib_facts
 refine fP ?_;simp only[body_wait,waitFn,Option.getD_some]
 u_c stepG_seq rl hF;u_cond true rl hF;u_reg rl hF
 refine Goes.stop (fun w₁ hx=>?_)
 replace hF:=rl hF hx
 clear hx;refine⟨rfl,_,stepG_mark0 .disable (by simp) rfl rfl (by k_ne) rfl H.f_disable (x_disable_n L) (x_disable_b L) (x_disable_x L) (x_disable_f L),3,fP ?_⟩
 walk_nrm
 u_c stepG_region_end rl hF;u_c stepG_block rl hF;u_c stepG_loop rl hF
 exact Goes.stop (fun w₂ h₂=>hA _ _ ⟨_,rfl,by simp,by simp,rl hF h₂⟩)
theorem Jd (H:WgLib c.P L) (hA:∀g w,AnX c L (b₀.at a₀ (.inRegion ops₀ (i₀::rest₀)::k₀)) cs g w→c.anch S g w) (hfin:∀g w,Td c (G (b₀.at (a₀.put ((ops₀[i₀]?).bind (·.dst)) (.tuple #[])) (.inRegion ops₀ rest₀::k₀)) cs) g w→c.fin g w)
 (g:Goroutine) (w:World) (h:AnX c L (b₀.at a₀ (.inRegion ops₀ (i₀::rest₀)::k₀)) cs g w):∃m,c.GP S (c.XW1 S) m g w:=by
 have rl:∀{w w₁:World},WgLive c.ty c.Wg w→c.RL S w w₁→WgLive c.ty c.Wg w₁:=fun h r=>r.2 h;have uf:∀{w w₁:World},WgLive c.ty c.Wg w→AtRel w w₁→WgLive c.ty c.Wg w₁:=fun h r=>by obtain⟨d,rfl⟩:=r;exact h
 lib_facts
 obtain⟨T,rfl,hT84,t0,hF⟩:=h;obtain⟨v0,v1,v2,v3,v4,v5,v6,v7,v8,v9,v10,v11,v12,v13,v14,v15,v16,v17,v18,v19,v20,v21,v22,v23,v24,v25,v26,v27,v28,v29,v30,v31,v32,v33,v34,v35,v36,v37,v38,v39,v40,v41,v42,v43,v44,v45,v46,v47,v48,v49,v50,v51,v52,v53,v54,v55,v56,v57,v58,v59,v60,v61,v62,v63,v64,v65,v66,v67,v68,v69,v70,v71,v72,v73,v74,v75,v76,v77,v78,v79,v80,v81,v82,v83,rfl⟩:=array84 T hT84;simp only[List.getElem?_toArray,List.getElem?_cons_zero,Option.some.injEq]at t0;subst t0;refine⟨30,fP ?_⟩;simp only[L7,body_wait,waitFn,Option.getD_some]
 u_c stepG_block rl hF;u_c stepG_seq rl hF;u_reg rl hF;u_op rl hF;u_op rl hF;u_op rl hF
 u_call H.f_uLoad (nm_uLoad L) uLoadFn rl hF
 u_c stepG_seq rl hF;u_reg rl hF;u_op rl hF;u_c stepG_region_end rl hF;u_c stepG_seq rl hF;u_reg rl hF;u_op rl hF;u_op rl hF;u_op rl hF
 refine Goes.stop (fun w₁ hx=>?_)
 replace hF:=rl hF hx
 clear hx;refine⟨rfl,fun v hv hw=>?_⟩;rcases Nat.eq_zero_or_pos v with rfl|hvp
 ·replace hw:WgAt c.ty c.Wg w₁ 0 0:=by simpa using hw
  refine⟨_,stepG_load_atomic (v:=0) rfl rfl (by k_ne) rfl H.f_loadU64 (x_loadU64_n L) (x_loadU64_b L) (x_loadU64_x L) .u64 (x_loadU64_f L) rfl hw.cellSt,fun _=>⟨50,fP ?_⟩,fun h=>absurd rfl h⟩;clear hw
  walk_nrm
  u_op rl hF;u_c stepG_region_end rl hF;u_c stepG_ret' rl hF
  u_leave1 H.f_uLoad rl hF
  u_op rl hF;u_c stepG_region_end rl hF;u_c stepG_seq rl hF;u_reg rl hF;u_op rl hF;u_op rl hF;u_op rl hF;u_op rl hF;u_c stepG_region_end rl hF;u_c stepG_seq rl hF;u_reg rl hF
  u_op rl hF;u_op rl hF;u_op rl hF;u_op rl hF;u_c stepG_region_end rl hF;u_c stepG_seq rl hF;u_c stepG_seq rl hF;u_reg rl hF;u_op rl hF;u_op rl hF;u_c stepG_region_end rl hF
  u_cond true rl hF;u_c stepG_seq rl hF;u_cond true rl hF;u_c stepG_seq rl hF;u_reg rl hF
  refine Goes.stop (fun w₅ hx=>?_)
  replace hF:=rl hF hx
  clear hx;refine⟨rfl,_,stepG_mark0 .enable (by simp) rfl rfl (by k_ne) rfl H.f_enable (x_enable_n L) (x_enable_b L) (x_enable_x L) (x_enable_f L),12,fP ?_⟩
  walk_nrm
  u_c stepG_region_end rl hF;u_reg rl hF;u_op rl hF
  u_in rl hF
  refine goes_oper_k rfl rfl (by k_ne) (fun Kx hKx=>?_);have hcv:=run_convert_to_unsafe (P:=c.P) H.underlying_tWgP H.underlying_tUP H.room_tWg (WgLive.cell0 hF).choose_spec;have hce:=fun es=>events_convert_to_unsafe (P:=c.P) H.underlying_tWgP H.underlying_tUP H.room_tWg (WgLive.cell0 hF).choose_spec es;go_simp;refine hKx _ _ ⟨?_,?_⟩
  ·u_none;intro ex hex;have hmx:=mem_listed hex;simp[go_sem,hce]at hmx
  clear hKx Kx hcv hce;refine Goes.stop (fun w₆ hx=>?_)
  replace hF:=rl hF hx
  clear hx;refine⟨rfl,_,stepG_markAt .acquire (by simp) rfl rfl (by k_ne) rfl H.f_acquire (x_acquire_n L) (x_acquire_b L) (x_acquire_x L) (x_acquire_f L) (by simp[Act.eval,stA]),hfin _ _ ?_⟩;unfold Td
  walk_nrm
  u_c stepG_region_end uf hF;u_c stepG_seq uf hF;u_c stepG_seq uf hF;u_reg uf hF;u_op uf hF;u_op uf hF;u_op uf hF;u_op uf hF;u_op uf hF;u_op uf hF;u_op uf hF
  u_op uf hF;u_skip uf hF;u_skip uf hF;u_op uf hF;u_c stepG_region_end uf hF;u_cond false uf hF;u_c stepG_skip uf hF;u_c stepG_ret' uf hF
  u_leave0 H.f_wait uf hF
  exact Goes.stop (fun _ _=>rfl)
 ·obtain⟨Q,hS⟩:∃Q:Int,(v:Int)*KK=Q:=⟨_,rfl⟩;have a1:Q / 4294967296=(v:Int):=by rw[←hS];simp only[KK];omega
  have b1:bits .and .u64 Q 2147483648=0:=by rw[←hS];have:=st_flag v 0 (by omega) (by omega);simpa[KK]using this
  have b2:bits .and .u64 Q 2147483647=0:=by rw[←hS];have:=st_waiters v 0 (by omega) (by omega);simpa[KK]using this
  have c1:IntKind.i32.wrap (v:Int)=(v:Int):=by rw[IntKind.wrap_i32];omega
  have w1:IntKind.u64.wrap (Q+1)=Q+1:=by rw[IntKind.wrap_u64, ←hS];simp only[KK];omega
  have q3:decide ((v:Int)<0)=false:=decide_eq_false (by omega);have q4:decide (0<(v:Int))=true:=decide_eq_true (by omega);have q5:((v:Int)==0)=false:=by simp;omega
  have q6:decide ((v:Int)=0)=false:=decide_eq_false (by omega);rw[hS]at hw;refine⟨_,stepG_load_atomic (v:=Q) rfl rfl (by k_ne) rfl H.f_loadU64 (x_loadU64_n L) (x_loadU64_b L) (x_loadU64_x L) .u64 (x_loadU64_f L) rfl hw.cellSt,fun h0=>absurd h0 (by omega),fun _=>⟨60,fP ?_⟩⟩;clear hw
  walk_nrm
  u_op rl hF;u_c stepG_region_end rl hF;u_c stepG_ret' rl hF
  u_leave1 H.f_uLoad rl hF
  u_op rl hF;u_c stepG_region_end rl hF;u_c stepG_seq rl hF;u_reg rl hF;u_op rl hF;u_op rl hF;u_op rl hF;u_op rl hF;u_c stepG_region_end rl hF;u_c stepG_seq rl hF;u_reg rl hF
  u_op rl hF;u_op rl hF;u_op rl hF;u_op rl hF;u_c stepG_region_end rl hF;u_c stepG_seq rl hF;u_c stepG_seq rl hF;u_reg rl hF;u_op rl hF;u_op rl hF;u_c stepG_region_end rl hF
  u_cnd false rl hF;u_c stepG_skip rl hF;u_c stepG_seq rl hF;u_reg rl hF;u_op rl hF;u_op rl hF;u_op rl hF;u_op rl hF;u_op rl hF;u_op rl hF
  u_call H.f_uCas (nm_uCas L) uCasFn rl hF
  u_c stepG_seq rl hF;u_reg rl hF;u_op rl hF;u_c stepG_region_end rl hF;u_c stepG_seq rl hF;u_reg rl hF;u_op rl hF;u_op rl hF;u_op rl hF;u_op rl hF;u_op rl hF
  refine Goes.stop (fun w₂ hx=>?_)
  replace hF:=rl hF hx
  clear hx;refine⟨rfl,fun v' hv' hw=>⟨fun e=>?_,fun e=>?_⟩⟩
  ·subst e;rw[hS]at hw ⊢;refine⟨_,(stepG_cas_hit (v:=Q) (n:=Q+1) rfl rfl (by k_ne) rfl H.f_casU64 (x_casU64_n L) (x_casU64_b L) (x_casU64_x L) .u64 (x_casU64_f L) rfl rfl rfl hw.cellSt (hw.thaw 0)).trans (by rfl),40+(50+1),?_⟩
   replace hF:WgLive c.ty c.Wg (w₂.setCell (stA c.Wg) (.int .u64 (Q+1))):=⟨_,_,hw.setSt _⟩
   clear hw;refine oL (Mid:=NQ c S (c.XW3 S) 50) dR.RL.refl (fun g w h=>Bf h) ?_
   walk_nrm
   u_op rl hF;u_c stepG_region_end rl hF;u_c stepG_ret' rl hF
   u_leave1 H.f_uCas rl hF
   u_c stepG_region_end rl hF;u_cond true rl hF;u_c stepG_seq rl hF;u_c stepG_seq rl hF;u_reg rl hF;u_op rl hF;u_op rl hF;u_op rl hF;u_op rl hF;u_c stepG_region_end rl hF
   u_cond true rl hF;u_reg rl hF;u_op rl hF;u_op rl hF;u_op rl hF
   u_in rl hF
   refine goes_oper_k rfl rfl (by k_ne) (fun Kx hKx=>?_);have hcv:=run_convert_to_unsafe (P:=c.P) H.underlying_tPU32 H.underlying_tUP H.room_tU32 (WgLive.cell1 hF).choose_spec;have hce:=fun es=>events_convert_to_unsafe (P:=c.P) H.underlying_tPU32 H.underlying_tUP H.room_tU32 (WgLive.cell1 hF).choose_spec es;go_simp;refine hKx _ _ ⟨?_,?_⟩
   ·u_none;intro ex hex;have hmx:=mem_listed hex;simp[go_sem,hce]at hmx
   clear hKx Kx hcv hce;refine Goes.stop (fun wx hx=>⟨rfl,fun wy hy=>?_⟩)
   replace hF:=rl (rl hF hx) hy
   clear hx hy;refine⟨_,⟨_,stepG_markAt .write (by simp) rfl rfl (by k_ne) rfl H.f_raceWrite (x_raceWrite_n L) (x_raceWrite_b L) (x_raceWrite_x L) (x_raceWrite_f L) (ad:=⟨c.Wg,1,none⟩) (by simp[Act.eval]<;>rfl),⟨_,.inr rfl,rfl⟩⟩,fP ?_⟩
   walk_nrm
   u_c stepG_region_end rl hF;u_c stepG_seq rl hF;u_reg rl hF;u_op rl hF;u_c stepG_region_end rl hF;u_c stepG_seq rl hF;u_c stepG_seq rl hF;u_reg rl hF;u_op rl hF;u_op rl hF
   u_op rl hF;u_op rl hF;u_skip rl hF;u_op rl hF;u_c stepG_region_end rl hF;u_cond false rl hF;u_c stepG_skip rl hF;u_c stepG_seq rl hF;u_reg rl hF;u_op rl hF;u_op rl hF
   u_op rl hF;u_op rl hF
   refine Goes.stop (fun w₃ hx=>?_)
   replace hF:=rl hF hx
   clear hx;refine⟨rfl,rfl,fun⟨st,hw⟩=>stepG_semacquire_wait rfl rfl rfl H.f_semacquire (x_semacquire_n L) (x_semacquire_b L) (x_semacquire_x L) (x_semacquire_f L) (by simp[Act.eval,smA]) hw.cellSm,fun hf=>?_⟩;refine⟨_,(stepG_semacquire (n:=1) rfl rfl (by k_ne) rfl H.f_semacquire (x_semacquire_n L) (x_semacquire_b L) (x_semacquire_x L) (x_semacquire_f L) (by simp[Act.eval,smA]) hf.cellSm (by k_ne) (hf.thaw 1)).trans (by rfl),30,fP ?_⟩
   replace hF:WgLive c.ty c.Wg (w₃.setCell (smA c.Wg) (.int .u32 0)):=⟨_,_,hf.setSm 0⟩
   clear hf
   walk_nrm
   u_c stepG_region_end rl hF;u_c stepG_seq rl hF;u_reg rl hF;u_op rl hF;u_op rl hF;u_op rl hF
   u_call H.f_uLoad (nm_uLoad L) uLoadFn rl hF
   u_c stepG_seq rl hF;u_reg rl hF;u_op rl hF;u_c stepG_region_end rl hF;u_c stepG_seq rl hF;u_reg rl hF;u_op rl hF;u_op rl hF;u_op rl hF
   refine Goes.stop (fun w₄ hx=>?_)
   replace hF:=rl hF hx
   clear hx;refine⟨rfl,fun hw=>⟨_,stepG_load_atomic (v:=0) rfl rfl (by k_ne) rfl H.f_loadU64 (x_loadU64_n L) (x_loadU64_b L) (x_loadU64_x L) .u64 (x_loadU64_f L) rfl hw.cellSt,30,fP ?_⟩⟩;clear hw
   walk_nrm
   u_op rl hF;u_c stepG_region_end rl hF;u_c stepG_ret' rl hF
   u_leave1 H.f_uLoad rl hF
   u_op rl hF;u_op rl hF;u_c stepG_region_end rl hF;u_c stepG_seq rl hF;u_cond true rl hF;u_c stepG_seq rl hF;u_reg rl hF
   refine Goes.stop (fun w₅ hx=>?_)
   replace hF:=rl hF hx
   clear hx;refine⟨rfl,_,stepG_mark0 .enable (by simp) rfl rfl (by k_ne) rfl H.f_enable (x_enable_n L) (x_enable_b L) (x_enable_x L) (x_enable_f L),12,fP ?_⟩
   walk_nrm
   u_c stepG_region_end rl hF;u_reg rl hF;u_op rl hF
   u_in rl hF
   refine goes_oper_k rfl rfl (by k_ne) (fun Kx hKx=>?_);have hcv:=run_convert_to_unsafe (P:=c.P) H.underlying_tWgP H.underlying_tUP H.room_tWg (WgLive.cell0 hF).choose_spec;have hce:=fun es=>events_convert_to_unsafe (P:=c.P) H.underlying_tWgP H.underlying_tUP H.room_tWg (WgLive.cell0 hF).choose_spec es;go_simp;refine hKx _ _ ⟨?_,?_⟩
   ·u_none;intro ex hex;have hmx:=mem_listed hex;simp[go_sem,hce]at hmx
   clear hKx Kx hcv hce;refine Goes.stop (fun w₆ hx=>?_)
   replace hF:=rl hF hx
   clear hx;refine⟨rfl,_,stepG_markAt .acquire (by simp) rfl rfl (by k_ne) rfl H.f_acquire (x_acquire_n L) (x_acquire_b L) (x_acquire_x L) (x_acquire_f L) (by simp[Act.eval,stA]),hfin _ _ ?_⟩;unfold Td
   walk_nrm
   u_c stepG_region_end uf hF;u_c stepG_seq uf hF;u_c stepG_seq uf hF;u_reg uf hF;u_op uf hF;u_c stepG_region_end uf hF;u_cond false uf hF;u_c stepG_skip uf hF
   u_c stepG_ret' uf hF
   u_leave0 H.f_wait uf hF
   exact Goes.stop (fun _ _=>rfl)
  ·refine⟨_,stepG_cas_miss (v:=(v':Int)*KK) (old:=Q) (n:=Q+1) rfl rfl (by k_ne) rfl H.f_casU64 (x_casU64_n L) (x_casU64_b L) (x_casU64_x L) .u64 (x_casU64_f L) rfl rfl rfl hw.cellSt (hw.thaw 0) (by rw[←hS];simp only[KK];omega),20,fP ?_⟩;clear hw
   walk_nrm
   u_op rl hF;u_c stepG_region_end rl hF;u_c stepG_ret' rl hF
   u_leave1 H.f_uCas rl hF
   u_c stepG_region_end rl hF;u_cond false rl hF;u_c stepG_skip rl hF;u_c stepG_inBlock rl hF;u_c stepG_inLoop rl hF
   exact Goes.stop (fun w₃ h₃=>hA _ _ ⟨_,rfl,by simp,by simp,rl hF h₃⟩)
end
end Go.Ren
