import Derived.Test.YtheibfffilomcabGreatDoorS9U
import Derived.Conc.WgGenN3
import Derived.Conc.Company
set_option linter.all false
set_option maxRecDepth 100000
set_option maxHeartbeats 8000000
namespace Go.Ren
open Go.Conc Go.ConcN Go.RowKit Go.Conc.Lib Go.ConcR.Gen Go.ConcN.Gen
open Go.ConcR (KK wgBlock WgAt stA smA rd wr Payload Aside2 DC0 Bk)
set_option linter.unusedSimpArgs false
set_option linter.unusedVariables false
set_option linter.unusedSectionVars false
section
variable [Payload] {c:dR} {S:Nat→Prop} {Stop:Goroutine→World→Prop}
theorem fP {R:World→World→Prop}:∀{m:Nat} {g:Goroutine} {w:World},Goes c.P true R DC0 Stop m g w→Goes c.P true R c.DS Stop m g w
 | 0,_,_,h=>h
 |m+1,g,w,h=>by
  rcases h with h|⟨hr,h⟩
  ·exact .inl h
  ·refine .inr ⟨hr,fun w₁ r=>?_⟩;obtain⟨g',w',es,e,⟨h1,h2⟩,h3⟩:=goes_elim (h w₁ r);rw[e];exact⟨⟨h1,by rw[h2];simp⟩,fP h3⟩
theorem oL {R:World→World→Prop} {Mid:Goroutine→World→Prop} (hR:∀w,R w w) {k:Nat} (hm:∀g w,Mid g w→Goes c.P true R c.DS Stop k g w):∀{m:Nat} {g:Goroutine} {w:World},Goes c.P true R DC0 Mid m g w→Goes c.P true R c.DS Stop (m+k) g w
 | 0,g,w,h=>by rw[Nat.zero_add];exact hm _ _ (h w (hR w))
 |m+1,g,w,h=>by
  rcases h with h|⟨hr,h⟩
  ·exact Goes.mono (hm _ _ (h w (hR w))) (by omega)
  ·rw[Nat.add_right_comm];refine .inr ⟨hr,fun w₁ r=>?_⟩;obtain⟨g',w',es,e,⟨h1,h2⟩,h3⟩:=goes_elim (h w₁ r);rw[e];exact⟨⟨h1,by rw[h2];simp⟩,oL hR hm h3⟩
def NL (c:dR) [Payload] (S:Nat→Prop) (Stop:Goroutine→World→Prop) (k:Nat) (g:Goroutine) (w:World):Prop:=
 g.status= .running∧∀w₁,c.RL S w w₁→∃g',(∃e,stepG c.P true g w₁= .go g' w₁ #[e]∧Said c.Wg e)∧Goes c.P true (c.RL S) c.DS Stop k g' w₁
theorem Be {k:Nat} {g:Goroutine} {w:World} (h:NL c S Stop k g w):Goes c.P true (c.RL S) c.DS Stop (k+1) g w:=by refine .inr ⟨h.1,fun w₁ r=>?_⟩;obtain⟨g',⟨e,h1,h2⟩,h3⟩:=h.2 w₁ r;rw[h1];exact⟨⟨rfl,fun x hx=>by rw[Array.mem_singleton]at hx;subst hx;exact h2⟩,h3⟩
end
end Go.Ren
namespace Go.Ren
open Go.Conc Go.ConcN Go.RowKit Go.Conc.Lib Go.ConcR.Gen Go.ConcN.Gen
open Go.ConcR (KK wgBlock WgAt stA smA rd wr Payload Aside2 DC0 Bk)
set_option linter.unusedSimpArgs false
set_option linter.unusedVariables false
set_option linter.unusedSectionVars false
section
variable [Payload] {c:dR} {S:Nat→Prop} {L:WgLink} {F:World→Prop} {j:Nat} {Next:Goroutine→World→Prop}
 {b₀:Frame} {a₀:Act} {ops₀:Array Oper} {i₀:Nat} {rest₀:List Nat} {k₀:List Item} {cs:List Frame} {mT:Nat}
theorem NM (H:WgLib c.P L) (hty:c.ty=L.tWg) (hF2:∀w w',c.RL S w w'→F w→F w') (hFs:∀w v,F w→F (w.setCell (stA c.Wg) v))
 (hT:∀w,F w→WgLive c.ty c.Wg w→Goes c.P true (c.RL S) c.DS (c.XGo S j Next) mT (G (b₀.at (a₀.put ((ops₀[i₀]?).bind (·.dst)) (.tuple #[])) (.inRegion ops₀ rest₀::k₀)) cs) w)
 (w:World) (hF:F w∧WgLive c.ty c.Wg w):
 c.GP S (c.QE S j Next) 12 (G ((base L.add).at ⟨#[.pointer (some ⟨c.Wg,0,none⟩),.int .i64 1,undef,undef,undef,undef,undef,undef,undef,undef,undef,undef,undef,undef,undef,undef,undef,undef,undef,undef,undef,undef,undef,undef,undef,undef,undef,undef,undef,undef,undef,undef,undef,undef,undef,undef,undef,undef,undef,undef,undef,undef,undef,undef,undef,undef,undef,undef,undef,undef,undef,undef,undef,undef,undef,undef,undef,undef,undef,undef,undef,undef,undef,undef,undef,undef,undef,undef,undef,undef,undef,undef,undef,undef,undef,undef,undef,undef,undef,undef,undef,undef,undef,undef,undef,undef,undef,undef,undef,undef,undef,undef,undef,undef,undef,undef,undef,undef,undef,undef,undef,undef,undef,undef,undef,undef,undef,undef,undef,undef,undef,undef,undef,undef,undef,undef,undef],[]⟩ [.code (body_add L)]) (b₀.at a₀ (.inRegion ops₀ (i₀::rest₀)::k₀)::cs)) w:=by
 have rl:∀{w w₁:World},(F w∧WgLive c.ty c.Wg w)→c.RL S w w₁→(F w₁∧WgLive c.ty c.Wg w₁):=fun h r=>⟨hF2 _ _ r h.1,r.2 h.2⟩
 lib_facts
 refine fP ?_;simp only[body_add,addFn,Option.getD_some]
 u_c stepG_seq rl hF;u_cond true rl hF;u_c stepG_seq rl hF;u_c stepG_seq rl hF;u_reg rl hF;u_op rl hF;u_op rl hF;u_c stepG_region_end rl hF;u_cond false rl hF
 u_c stepG_skip rl hF;u_c stepG_seq rl hF;u_reg rl hF
 refine Goes.stop (fun w₁ hx=>?_)
 replace hF:=rl hF hx
 clear hx;refine⟨rfl,_,stepG_mark0 .disable (by simp) rfl rfl (by k_ne) rfl H.f_disable (x_disable_n L) (x_disable_b L) (x_disable_x L) (x_disable_f L),40,fP ?_⟩
 walk_nrm
 u_c stepG_region_end rl hF;u_reg rl hF;u_defer rl hF;u_c stepG_region_end rl hF;u_c stepG_seq rl hF;u_reg rl hF;u_op rl hF;u_c stepG_region_end rl hF;u_c stepG_seq rl hF
 u_c stepG_seq rl hF;u_reg rl hF;u_bub rl hF;u_c stepG_region_end rl hF;u_cond false rl hF;u_c stepG_skip rl hF;u_c stepG_seq rl hF;u_reg rl hF;u_op rl hF;u_op rl hF
 u_op rl hF;u_op rl hF;u_op rl hF;u_op rl hF
 u_call H.f_uAdd (nm_uAdd L) uAddFn rl hF
 u_c stepG_seq rl hF;u_reg rl hF;u_op rl hF;u_c stepG_region_end rl hF;u_c stepG_seq rl hF;u_reg rl hF;u_op rl hF;u_op rl hF;u_op rl hF;u_op rl hF
 refine Goes.stop (fun w₂ hx=>?_)
 replace hF:=rl hF hx
 clear hx;refine⟨rfl,fun v hv hw=>?_⟩;rcases Nat.eq_zero_or_pos v with rfl|hvp
 ·replace hw:WgAt c.ty c.Wg w₂ 0 0:=by simpa using hw
  have z:(((0:Nat):Int)+1)*KK=KK:=by simp
  rw[z];have e0:IntKind.u64.wrap (0+4294967296)=KK:=by decide
  refine⟨_,(stepG_add_atomic rfl rfl (by k_ne) rfl H.f_addU64 (x_addU64_n L) (x_addU64_b L) (x_addU64_x L) .u64 (x_addU64_f L) rfl rfl hw.cellSt (hw.thaw 0)).trans (by rw[e0];rfl),80+(60+1),?_⟩
  replace hF:F (w₂.setCell (stA c.Wg) (.int .u64 KK))∧WgLive c.ty c.Wg (w₂.setCell (stA c.Wg) (.int .u64 KK)):=⟨hFs _ _ hF.1,⟨_,_,hw.setSt _⟩⟩
  clear hw;simp only[KK]at hF ⊢
  walk_nrm
  refine oL (Mid:=NL c S (c.Tt S j Next) 60) dR.RL.refl (fun g w h=>Be h) ?_
  u_op rl hF;u_c stepG_region_end rl hF;u_c stepG_ret' rl hF
  u_leave1 H.f_uAdd rl hF
  u_op rl hF;u_c stepG_region_end rl hF;u_c stepG_seq rl hF;u_c stepG_seq rl hF;u_reg rl hF;u_op rl hF;u_op rl hF;u_op rl hF;u_op rl hF;u_skip rl hF;u_skip rl hF;u_op rl hF
  u_c stepG_region_end rl hF;u_cond false rl hF;u_c stepG_skip rl hF;u_c stepG_seq rl hF;u_reg rl hF;u_op rl hF;u_op rl hF;u_op rl hF;u_op rl hF;u_c stepG_region_end rl hF
  u_c stepG_seq rl hF;u_reg rl hF;u_op rl hF;u_op rl hF;u_op rl hF;u_op rl hF;u_c stepG_region_end rl hF;u_c stepG_seq rl hF;u_c stepG_seq rl hF;u_reg rl hF;u_op rl hF
  u_op rl hF;u_op rl hF;u_op rl hF;u_op rl hF;u_op rl hF;u_op rl hF;u_op rl hF;u_op rl hF;u_op rl hF;u_c stepG_region_end rl hF;u_cond true rl hF;u_reg rl hF;u_op rl hF
  u_op rl hF;u_op rl hF
  u_in rl hF
  refine goes_oper_k rfl rfl (by k_ne) (fun Kx hKx=>?_);have hcv:=run_convert_to_unsafe (P:=c.P) H.underlying_tPU32 H.underlying_tUP H.room_tU32 (WgLive.cell1 hF.2).choose_spec;have hce:=fun es=>events_convert_to_unsafe (P:=c.P) H.underlying_tPU32 H.underlying_tUP H.room_tU32 (WgLive.cell1 hF.2).choose_spec es;go_simp;refine hKx _ _ ⟨?_,?_⟩
  ·u_none;intro ex hex;have hmx:=mem_listed hex;simp[go_sem,hce]at hmx
  clear hKx Kx hcv hce;refine Goes.stop (fun wx hx=>⟨rfl,fun wy hy=>?_⟩)
  replace hF:=rl (rl hF hx) hy
  clear hx hy;refine⟨_,⟨_,stepG_markAt .read (by simp) rfl rfl (by k_ne) rfl H.f_raceRead (x_raceRead_n L) (x_raceRead_b L) (x_raceRead_x L) (x_raceRead_f L) (ad:=⟨c.Wg,1,none⟩) (by simp[Act.eval]),⟨_,.inl rfl,rfl⟩⟩,fP ?_⟩
  walk_nrm
  u_c stepG_region_end rl hF;u_c stepG_seq rl hF;u_c stepG_seq rl hF;u_reg rl hF;u_op rl hF;u_op rl hF;u_c stepG_region_end rl hF;u_cond false rl hF;u_c stepG_skip rl hF
  u_c stepG_seq rl hF;u_c stepG_seq rl hF;u_reg rl hF;u_op rl hF;u_op rl hF;u_op rl hF;u_skip rl hF;u_skip rl hF;u_op rl hF;u_op rl hF;u_skip rl hF;u_skip rl hF
  u_skip rl hF;u_skip rl hF;u_op rl hF;u_c stepG_region_end rl hF;u_cond false rl hF;u_c stepG_skip rl hF;u_c stepG_seq rl hF;u_c stepG_seq rl hF;u_reg rl hF;u_op rl hF
  u_op rl hF;u_op rl hF;u_skip rl hF;u_skip rl hF;u_op rl hF;u_c stepG_region_end rl hF;u_cond true rl hF;u_c stepG_ret' rl hF
  refine Goes.stop (fun w₃ hx=>?_)
  replace hF:=rl hF hx
  clear hx;refine⟨rfl,_,stepG_unwind_entry (v:=.tuple #[]) (evs:=#[Go.ConcR.mk .enable]) rfl H.f_enable (x_enable_n L) (x_enable_b L) (x_enable_x L) (x_enable_f L) (by simp[Extern.Race.none_]) (by simp[Go.ConcR.mk]) (by simp[Go.ConcR.mk]),1+mT,?_⟩;refine oL (Mid:=fun g w=>g=G (b₀.at (a₀.put ((ops₀[i₀]?).bind (·.dst)) (.tuple #[])) (.inRegion ops₀ rest₀::k₀)) cs∧F w∧WgLive c.ty c.Wg w) dR.RL.refl (fun g w h=>by rw[h.1];exact hT w h.2.1 h.2.2) ?_
  u_leave0 H.f_add rl hF
  exact Goes.stop (fun wx hx=>⟨rfl,rl hF hx⟩)
 ·obtain⟨V,hV⟩:∃V:Int,V=(v:Int)+1:=⟨_,rfl⟩;obtain⟨T,hS⟩:∃T:Int,T=V*KK:=⟨_,rfl⟩;have eS:IntKind.u64.wrap ((v:Int)*KK+4294967296)=T:=by rw[IntKind.wrap_u64,hS,hV];simp only[KK];omega
  rw[←hV, ←hS];have a1:T / 4294967296=V:=by rw[hS];simp only[KK];omega
  have b1:bits .and .u64 T 2147483648=0:=by rw[hS,hV];have:=st_flag (v+1) 0 (by omega) (by omega);simpa[KK]using this
  have b2:bits .and .u64 T 2147483647=0:=by rw[hS,hV];have:=st_waiters (v+1) 0 (by omega) (by omega);simpa[KK]using this
  have c1:IntKind.i32.wrap V=V:=by rw[IntKind.wrap_i32];omega
  have hV1:1<V:=by omega
  have hV2:V<2147483648:=by omega
  have q1:(V==1)=false:=by simp;omega
  have q2:decide (V=1)=false:=decide_eq_false (by omega);have q3:decide (V<0)=false:=decide_eq_false (by omega);have q4:decide (0<V)=true:=decide_eq_true (by omega);have q5:(V==0)=false:=by simp;omega
  have q6:decide (V=0)=false:=decide_eq_false (by omega);refine⟨_,(stepG_add_atomic rfl rfl (by k_ne) rfl H.f_addU64 (x_addU64_n L) (x_addU64_b L) (x_addU64_x L) .u64 (x_addU64_f L) rfl rfl hw.cellSt (hw.thaw 0)).trans (by rw[eS];rfl),110,fP ?_⟩
  replace hF:F (w₂.setCell (stA c.Wg) (.int .u64 T))∧WgLive c.ty c.Wg (w₂.setCell (stA c.Wg) (.int .u64 T)):=⟨hFs _ _ hF.1,⟨_,_,hw.setSt _⟩⟩
  clear hw hS hV eS
  walk_nrm
  u_op rl hF;u_c stepG_region_end rl hF;u_c stepG_ret' rl hF
  u_leave1 H.f_uAdd rl hF
  u_op rl hF;u_c stepG_region_end rl hF;u_c stepG_seq rl hF;u_c stepG_seq rl hF;u_reg rl hF;u_op rl hF;u_op rl hF;u_op rl hF;u_op rl hF;u_skip rl hF;u_skip rl hF;u_op rl hF
  u_c stepG_region_end rl hF;u_cnd false rl hF;u_c stepG_skip rl hF;u_c stepG_seq rl hF;u_reg rl hF;u_op rl hF;u_op rl hF;u_op rl hF;u_op rl hF;u_c stepG_region_end rl hF
  u_c stepG_seq rl hF;u_reg rl hF;u_op rl hF;u_op rl hF;u_op rl hF;u_op rl hF;u_c stepG_region_end rl hF;u_c stepG_seq rl hF;u_c stepG_seq rl hF;u_reg rl hF;u_op rl hF
  u_op rl hF;u_op rl hF;u_op rl hF;u_op rl hF;u_op rl hF;u_op rl hF;u_op rl hF;u_op rl hF;u_op rl hF;u_c stepG_region_end rl hF;u_cnd false rl hF;u_c stepG_skip rl hF
  u_c stepG_seq rl hF;u_c stepG_seq rl hF;u_reg rl hF;u_op rl hF;u_op rl hF;u_c stepG_region_end rl hF;u_cnd false rl hF;u_c stepG_skip rl hF;u_c stepG_seq rl hF
  u_c stepG_seq rl hF;u_reg rl hF;u_op rl hF;u_op rl hF;u_op rl hF;u_skip rl hF;u_skip rl hF;u_op rl hF;u_op rl hF;u_skip rl hF;u_skip rl hF;u_skip rl hF;u_skip rl hF
  u_op rl hF;u_c stepG_region_end rl hF;u_cnd false rl hF;u_c stepG_skip rl hF;u_c stepG_seq rl hF;u_c stepG_seq rl hF;u_reg rl hF;u_op rl hF;u_op rl hF;u_op rl hF
  u_skip rl hF;u_skip rl hF;u_op rl hF;u_c stepG_region_end rl hF;u_cnd true rl hF;u_c stepG_ret' rl hF
  refine Goes.stop (fun w₃ hx=>?_)
  replace hF:=rl hF hx
  clear hx;refine⟨rfl,_,stepG_unwind_entry (v:=.tuple #[]) (evs:=#[Go.ConcR.mk .enable]) rfl H.f_enable (x_enable_n L) (x_enable_b L) (x_enable_x L) (x_enable_f L) (by simp[Extern.Race.none_]) (by simp[Go.ConcR.mk]) (by simp[Go.ConcR.mk]),1+mT,?_⟩;refine oL (Mid:=fun g w=>g=G (b₀.at (a₀.put ((ops₀[i₀]?).bind (·.dst)) (.tuple #[])) (.inRegion ops₀ rest₀::k₀)) cs∧F w∧WgLive c.ty c.Wg w) dR.RL.refl (fun g w h=>by rw[h.1];exact hT w h.2.1 h.2.2) ?_
  u_leave0 H.f_add rl hF
  exact Goes.stop (fun wx hx=>⟨rfl,rl hF hx⟩)
end
end Go.Ren
namespace Go.Ren
open Go.Conc Go.ConcN Go.RowKit Go.Conc.Lib Go.ConcR.Gen Go.ConcN.Gen
open Go.ConcR (KK wgBlock WgAt stA smA rd wr Payload Aside2 DC0 Bk)
set_option linter.unusedSimpArgs false
set_option linter.unusedVariables false
set_option linter.unusedSectionVars false
section
variable [Payload] {c:dR} {S:Nat→Prop} {L:WgLink}
 {b₀:Frame} {a₀:Act} {ops₀:Array Oper} {i₀:Nat} {rest₀:List Nat} {k₀:List Item} {cs:List Frame} {mT:Nat}
def AnX (c:dR) [Payload] (L:WgLink) (f:Frame) (cs:List Frame) (g:Goroutine) (w:World):Prop:=
 ∃T:Array Value,g=G ((base L.wait).at ⟨T,[]⟩ [.code (L7 L),.inLoop (L7 L),.inBlock 0]) (f::cs)∧T.size=84∧T[0]? =some (.pointer (some ⟨c.Wg,0,none⟩))∧WgLive c.ty c.Wg w
def S9 (c:dR) (rec:Goroutine) (g:Goroutine) (w:World):Prop:=Goes c.P true AtRel DC0 (fun g' _=>g'=rec) 30 g w
theorem Jc (H:WgLib c.P L) (hA:∀g w,AnX c L (b₀.at a₀ (.inRegion ops₀ (i₀::rest₀)::k₀)) cs g w→c.anch S g w) (w:World) (hF:WgLive c.ty c.Wg w):
 c.GP S (c.XKd S) 3 (G ((base L.wait).at ⟨#[.pointer (some ⟨c.Wg,0,none⟩),undef,undef,undef,undef,undef,undef,undef,undef,undef,undef,undef,undef,undef,undef,undef,undef,undef,undef,undef,undef,undef,undef,undef,undef,undef,undef,undef,undef,undef,undef,undef,undef,undef,undef,undef,undef,undef,undef,undef,undef,undef,undef,undef,undef,undef,undef,undef,undef,undef,undef,undef,undef,undef,undef,undef,undef,undef,undef,undef,undef,undef,undef,undef,undef,undef,undef,undef,undef,undef,undef,undef,undef,undef,undef,undef,undef,undef,undef,undef,undef,undef,undef,undef],[]⟩ [.code (body_wait L)]) (b₀.at a₀ (.inRegion ops₀ (i₀::rest₀)::k₀)::cs)) w:=by
 have rl:∀{w w₁:World},WgLive c.ty c.Wg w→c.RL S w w₁→WgLive c.ty c.Wg w₁:=fun h r=>r.2 h
 lib_facts
 refine fP ?_;simp only[body_wait,waitFn,Option.getD_some]
 u_c stepG_seq rl hF;u_cond true rl hF;u_reg rl hF
 refine Goes.stop (fun w₁ hx=>?_)
 replace hF:=rl hF hx
 clear hx;refine⟨rfl,_,stepG_mark0 .disable (by simp) rfl rfl (by k_ne) rfl H.f_disable (x_disable_n L) (x_disable_b L) (x_disable_x L) (x_disable_f L),3,fP ?_⟩
 walk_nrm
 u_c stepG_region_end rl hF;u_c stepG_block rl hF;u_c stepG_loop rl hF
 exact Goes.stop (fun w₂ h₂=>hA _ _ ⟨_,rfl,by simp,by simp,rl hF h₂⟩)
theorem Jb (H:WgLib c.P L) (hA:∀g w,AnX c L (b₀.at a₀ (.inRegion ops₀ (i₀::rest₀)::k₀)) cs g w→c.anch S g w) (hfin:∀g w,S9 c (G (b₀.at (a₀.put ((ops₀[i₀]?).bind (·.dst)) (.tuple #[])) (.inRegion ops₀ rest₀::k₀)) cs) g w→c.fin g w)
 (g:Goroutine) (w:World) (h:AnX c L (b₀.at a₀ (.inRegion ops₀ (i₀::rest₀)::k₀)) cs g w):∃m,c.GP S (c.XW1 S) m g w:=by
 have rl:∀{w w₁:World},WgLive c.ty c.Wg w→c.RL S w w₁→WgLive c.ty c.Wg w₁:=fun h r=>r.2 h;have uf:∀{w w₁:World},WgLive c.ty c.Wg w→AtRel w w₁→WgLive c.ty c.Wg w₁:=fun h r=>by obtain⟨d,rfl⟩:=r;exact h
 lib_facts
 obtain⟨T,rfl,hT84,t0,hF⟩:=h;obtain⟨v0,v1,v2,v3,v4,v5,v6,v7,v8,v9,v10,v11,v12,v13,v14,v15,v16,v17,v18,v19,v20,v21,v22,v23,v24,v25,v26,v27,v28,v29,v30,v31,v32,v33,v34,v35,v36,v37,v38,v39,v40,v41,v42,v43,v44,v45,v46,v47,v48,v49,v50,v51,v52,v53,v54,v55,v56,v57,v58,v59,v60,v61,v62,v63,v64,v65,v66,v67,v68,v69,v70,v71,v72,v73,v74,v75,v76,v77,v78,v79,v80,v81,v82,v83,rfl⟩:=array84 T hT84;simp only[List.getElem?_toArray,List.getElem?_cons_zero,Option.some.injEq]at t0;subst t0;refine⟨30,fP ?_⟩;simp only[L7,body_wait,waitFn,Option.getD_some]
 u_c stepG_block rl hF;u_c stepG_seq rl hF;u_reg rl hF;u_op rl hF;u_op rl hF;u_op rl hF
 u_call H.f_uLoad (nm_uLoad L) uLoadFn rl hF
 u_c stepG_seq rl hF;u_reg rl hF;u_op rl hF;u_c stepG_region_end rl hF;u_c stepG_seq rl hF;u_reg rl hF;u_op rl hF;u_op rl hF;u_op rl hF
 refine Goes.stop (fun w₁ hx=>?_)
 replace hF:=rl hF hx
 clear hx;refine⟨rfl,fun v hv hw=>?_⟩;rcases Nat.eq_zero_or_pos v with rfl|hvp
 ·replace hw:WgAt c.ty c.Wg w₁ 0 0:=by simpa using hw
  refine⟨_,stepG_load_atomic (v:=0) rfl rfl (by k_ne) rfl H.f_loadU64 (x_loadU64_n L) (x_loadU64_b L) (x_loadU64_x L) .u64 (x_loadU64_f L) rfl hw.cellSt,fun _=>⟨50,fP ?_⟩,fun h=>absurd rfl h⟩;clear hw
  walk_nrm
  u_op rl hF;u_c stepG_region_end rl hF;u_c stepG_ret' rl hF
  u_leave1 H.f_uLoad rl hF
  u_op rl hF;u_c stepG_region_end rl hF;u_c stepG_seq rl hF;u_reg rl hF;u_op rl hF;u_op rl hF;u_op rl hF;u_op rl hF;u_c stepG_region_end rl hF;u_c stepG_seq rl hF;u_reg rl hF
  u_op rl hF;u_op rl hF;u_op rl hF;u_op rl hF;u_c stepG_region_end rl hF;u_c stepG_seq rl hF;u_c stepG_seq rl hF;u_reg rl hF;u_op rl hF;u_op rl hF;u_c stepG_region_end rl hF
  u_cond true rl hF;u_c stepG_seq rl hF;u_cond true rl hF;u_c stepG_seq rl hF;u_reg rl hF
  refine Goes.stop (fun w₅ hx=>?_)
  replace hF:=rl hF hx
  clear hx;refine⟨rfl,_,stepG_mark0 .enable (by simp) rfl rfl (by k_ne) rfl H.f_enable (x_enable_n L) (x_enable_b L) (x_enable_x L) (x_enable_f L),12,fP ?_⟩
  walk_nrm
  u_c stepG_region_end rl hF;u_reg rl hF;u_op rl hF
  u_in rl hF
  refine goes_oper_k rfl rfl (by k_ne) (fun Kx hKx=>?_);have hcv:=run_convert_to_unsafe (P:=c.P) H.underlying_tWgP H.underlying_tUP H.room_tWg (WgLive.cell0 hF).choose_spec;have hce:=fun es=>events_convert_to_unsafe (P:=c.P) H.underlying_tWgP H.underlying_tUP H.room_tWg (WgLive.cell0 hF).choose_spec es;go_simp;refine hKx _ _ ⟨?_,?_⟩
  ·u_none;intro ex hex;have hmx:=mem_listed hex;simp[go_sem,hce]at hmx
  clear hKx Kx hcv hce;refine Goes.stop (fun w₆ hx=>?_)
  replace hF:=rl hF hx
  clear hx;refine⟨rfl,_,stepG_markAt .acquire (by simp) rfl rfl (by k_ne) rfl H.f_acquire (x_acquire_n L) (x_acquire_b L) (x_acquire_x L) (x_acquire_f L) (by simp[Act.eval,stA]),hfin _ _ ?_⟩;unfold S9
  walk_nrm
  u_c stepG_region_end uf hF;u_c stepG_seq uf hF;u_c stepG_seq uf hF;u_reg uf hF;u_op uf hF;u_op uf hF;u_op uf hF;u_op uf hF;u_op uf hF;u_op uf hF;u_op uf hF
  u_op uf hF;u_skip uf hF;u_skip uf hF;u_op uf hF;u_c stepG_region_end uf hF;u_cond false uf hF;u_c stepG_skip uf hF;u_c stepG_ret' uf hF
  u_leave0 H.f_wait uf hF
  exact Goes.stop (fun _ _=>rfl)
 ·obtain⟨Q,hS⟩:∃Q:Int,(v:Int)*KK=Q:=⟨_,rfl⟩;have a1:Q / 4294967296=(v:Int):=by rw[←hS];simp only[KK];omega
  have b1:bits .and .u64 Q 2147483648=0:=by rw[←hS];have:=st_flag v 0 (by omega) (by omega);simpa[KK]using this
  have b2:bits .and .u64 Q 2147483647=0:=by rw[←hS];have:=st_waiters v 0 (by omega) (by omega);simpa[KK]using this
  have c1:IntKind.i32.wrap (v:Int)=(v:Int):=by rw[IntKind.wrap_i32];omega
  have w1:IntKind.u64.wrap (Q+1)=Q+1:=by rw[IntKind.wrap_u64, ←hS];simp only[KK];omega
  have q3:decide ((v:Int)<0)=false:=decide_eq_false (by omega);have q4:decide (0<(v:Int))=true:=decide_eq_true (by omega);have q5:((v:Int)==0)=false:=by simp;omega
  have q6:decide ((v:Int)=0)=false:=decide_eq_false (by omega);rw[hS]at hw;refine⟨_,stepG_load_atomic (v:=Q) rfl rfl (by k_ne) rfl H.f_loadU64 (x_loadU64_n L) (x_loadU64_b L) (x_loadU64_x L) .u64 (x_loadU64_f L) rfl hw.cellSt,fun h0=>absurd h0 (by omega),fun _=>⟨60,fP ?_⟩⟩;clear hw
  walk_nrm
  u_op rl hF;u_c stepG_region_end rl hF;u_c stepG_ret' rl hF
  u_leave1 H.f_uLoad rl hF
  u_op rl hF;u_c stepG_region_end rl hF;u_c stepG_seq rl hF;u_reg rl hF;u_op rl hF;u_op rl hF;u_op rl hF;u_op rl hF;u_c stepG_region_end rl hF;u_c stepG_seq rl hF;u_reg rl hF
  u_op rl hF;u_op rl hF;u_op rl hF;u_op rl hF;u_c stepG_region_end rl hF;u_c stepG_seq rl hF;u_c stepG_seq rl hF;u_reg rl hF;u_op rl hF;u_op rl hF;u_c stepG_region_end rl hF
  u_cnd false rl hF;u_c stepG_skip rl hF;u_c stepG_seq rl hF;u_reg rl hF;u_op rl hF;u_op rl hF;u_op rl hF;u_op rl hF;u_op rl hF;u_op rl hF
  u_call H.f_uCas (nm_uCas L) uCasFn rl hF
  u_c stepG_seq rl hF;u_reg rl hF;u_op rl hF;u_c stepG_region_end rl hF;u_c stepG_seq rl hF;u_reg rl hF;u_op rl hF;u_op rl hF;u_op rl hF;u_op rl hF;u_op rl hF
  refine Goes.stop (fun w₂ hx=>?_)
  replace hF:=rl hF hx
  clear hx;refine⟨rfl,fun v' hv' hw=>⟨fun e=>?_,fun e=>?_⟩⟩
  ·subst e;rw[hS]at hw ⊢;refine⟨_,(stepG_cas_hit (v:=Q) (n:=Q+1) rfl rfl (by k_ne) rfl H.f_casU64 (x_casU64_n L) (x_casU64_b L) (x_casU64_x L) .u64 (x_casU64_f L) rfl rfl rfl hw.cellSt (hw.thaw 0)).trans (by rfl),40+(50+1),?_⟩
   replace hF:WgLive c.ty c.Wg (w₂.setCell (stA c.Wg) (.int .u64 (Q+1))):=⟨_,_,hw.setSt _⟩
   clear hw;refine oL (Mid:=NL c S (c.XW3 S) 50) dR.RL.refl (fun g w h=>Be h) ?_
   walk_nrm
   u_op rl hF;u_c stepG_region_end rl hF;u_c stepG_ret' rl hF
   u_leave1 H.f_uCas rl hF
   u_c stepG_region_end rl hF;u_cond true rl hF;u_c stepG_seq rl hF;u_c stepG_seq rl hF;u_reg rl hF;u_op rl hF;u_op rl hF;u_op rl hF;u_op rl hF;u_c stepG_region_end rl hF
   u_cond true rl hF;u_reg rl hF;u_op rl hF;u_op rl hF;u_op rl hF
   u_in rl hF
   refine goes_oper_k rfl rfl (by k_ne) (fun Kx hKx=>?_);have hcv:=run_convert_to_unsafe (P:=c.P) H.underlying_tPU32 H.underlying_tUP H.room_tU32 (WgLive.cell1 hF).choose_spec;have hce:=fun es=>events_convert_to_unsafe (P:=c.P) H.underlying_tPU32 H.underlying_tUP H.room_tU32 (WgLive.cell1 hF).choose_spec es;go_simp;refine hKx _ _ ⟨?_,?_⟩
   ·u_none;intro ex hex;have hmx:=mem_listed hex;simp[go_sem,hce]at hmx
   clear hKx Kx hcv hce;refine Goes.stop (fun wx hx=>⟨rfl,fun wy hy=>?_⟩)
   replace hF:=rl (rl hF hx) hy
   clear hx hy;refine⟨_,⟨_,stepG_markAt .write (by simp) rfl rfl (by k_ne) rfl H.f_raceWrite (x_raceWrite_n L) (x_raceWrite_b L) (x_raceWrite_x L) (x_raceWrite_f L) (ad:=⟨c.Wg,1,none⟩) (by simp[Act.eval]<;>rfl),⟨_,.inr rfl,rfl⟩⟩,fP ?_⟩
   walk_nrm
   u_c stepG_region_end rl hF;u_c stepG_seq rl hF;u_reg rl hF;u_op rl hF;u_c stepG_region_end rl hF;u_c stepG_seq rl hF;u_c stepG_seq rl hF;u_reg rl hF;u_op rl hF;u_op rl hF
   u_op rl hF;u_op rl hF;u_skip rl hF;u_op rl hF;u_c stepG_region_end rl hF;u_cond false rl hF;u_c stepG_skip rl hF;u_c stepG_seq rl hF;u_reg rl hF;u_op rl hF;u_op rl hF
   u_op rl hF;u_op rl hF
   refine Goes.stop (fun w₃ hx=>?_)
   replace hF:=rl hF hx
   clear hx;refine⟨rfl,rfl,fun⟨st,hw⟩=>stepG_semacquire_wait rfl rfl rfl H.f_semacquire (x_semacquire_n L) (x_semacquire_b L) (x_semacquire_x L) (x_semacquire_f L) (by simp[Act.eval,smA]) hw.cellSm,fun hf=>?_⟩;refine⟨_,(stepG_semacquire (n:=1) rfl rfl (by k_ne) rfl H.f_semacquire (x_semacquire_n L) (x_semacquire_b L) (x_semacquire_x L) (x_semacquire_f L) (by simp[Act.eval,smA]) hf.cellSm (by k_ne) (hf.thaw 1)).trans (by rfl),30,fP ?_⟩
   replace hF:WgLive c.ty c.Wg (w₃.setCell (smA c.Wg) (.int .u32 0)):=⟨_,_,hf.setSm 0⟩
   clear hf
   walk_nrm
   u_c stepG_region_end rl hF;u_c stepG_seq rl hF;u_reg rl hF;u_op rl hF;u_op rl hF;u_op rl hF
   u_call H.f_uLoad (nm_uLoad L) uLoadFn rl hF
   u_c stepG_seq rl hF;u_reg rl hF;u_op rl hF;u_c stepG_region_end rl hF;u_c stepG_seq rl hF;u_reg rl hF;u_op rl hF;u_op rl hF;u_op rl hF
   refine Goes.stop (fun w₄ hx=>?_)
   replace hF:=rl hF hx
   clear hx;refine⟨rfl,fun hw=>⟨_,stepG_load_atomic (v:=0) rfl rfl (by k_ne) rfl H.f_loadU64 (x_loadU64_n L) (x_loadU64_b L) (x_loadU64_x L) .u64 (x_loadU64_f L) rfl hw.cellSt,30,fP ?_⟩⟩;clear hw
   walk_nrm
   u_op rl hF;u_c stepG_region_end rl hF;u_c stepG_ret' rl hF
   u_leave1 H.f_uLoad rl hF
   u_op rl hF;u_op rl hF;u_c stepG_region_end rl hF;u_c stepG_seq rl hF;u_cond true rl hF;u_c stepG_seq rl hF;u_reg rl hF
   refine Goes.stop (fun w₅ hx=>?_)
   replace hF:=rl hF hx
   clear hx;refine⟨rfl,_,stepG_mark0 .enable (by simp) rfl rfl (by k_ne) rfl H.f_enable (x_enable_n L) (x_enable_b L) (x_enable_x L) (x_enable_f L),12,fP ?_⟩
   walk_nrm
   u_c stepG_region_end rl hF;u_reg rl hF;u_op rl hF
   u_in rl hF
   refine goes_oper_k rfl rfl (by k_ne) (fun Kx hKx=>?_);have hcv:=run_convert_to_unsafe (P:=c.P) H.underlying_tWgP H.underlying_tUP H.room_tWg (WgLive.cell0 hF).choose_spec;have hce:=fun es=>events_convert_to_unsafe (P:=c.P) H.underlying_tWgP H.underlying_tUP H.room_tWg (WgLive.cell0 hF).choose_spec es;go_simp;refine hKx _ _ ⟨?_,?_⟩
   ·u_none;intro ex hex;have hmx:=mem_listed hex;simp[go_sem,hce]at hmx
   clear hKx Kx hcv hce;refine Goes.stop (fun w₆ hx=>?_)
   replace hF:=rl hF hx
   clear hx;refine⟨rfl,_,stepG_markAt .acquire (by simp) rfl rfl (by k_ne) rfl H.f_acquire (x_acquire_n L) (x_acquire_b L) (x_acquire_x L) (x_acquire_f L) (by simp[Act.eval,stA]),hfin _ _ ?_⟩;unfold S9
   walk_nrm
   u_c stepG_region_end uf hF;u_c stepG_seq uf hF;u_c stepG_seq uf hF;u_reg uf hF;u_op uf hF;u_c stepG_region_end uf hF;u_cond false uf hF;u_c stepG_skip uf hF
   u_c stepG_ret' uf hF
   u_leave0 H.f_wait uf hF
   exact Goes.stop (fun _ _=>rfl)
  ·refine⟨_,stepG_cas_miss (v:=(v':Int)*KK) (old:=Q) (n:=Q+1) rfl rfl (by k_ne) rfl H.f_casU64 (x_casU64_n L) (x_casU64_b L) (x_casU64_x L) .u64 (x_casU64_f L) rfl rfl rfl hw.cellSt (hw.thaw 0) (by rw[←hS];simp only[KK];omega),20,fP ?_⟩;clear hw
   walk_nrm
   u_op rl hF;u_c stepG_region_end rl hF;u_c stepG_ret' rl hF
   u_leave1 H.f_uCas rl hF
   u_c stepG_region_end rl hF;u_cond false rl hF;u_c stepG_skip rl hF;u_c stepG_inBlock rl hF;u_c stepG_inLoop rl hF
   exact Goes.stop (fun w₃ h₃=>hA _ _ ⟨_,rfl,by simp,by simp,rl hF h₃⟩)
end
end Go.Ren
namespace Go.Ren
open Go.Conc Go.ConcN
open Go.ConcR (KK wgBlock WgAt stA smA rd wr Payload Aside2 DC0 Bk g_of_ofEvents)
set_option linter.unusedSimpArgs false
set_option linter.unusedVariables false
set_option linter.unusedSectionVars false
def EvN (Wg:Nat) (e:Event):Prop:=(∀x,(MemAct.ofEvent e).touch?=some x→¬ShN Wg x.loc)∧e.loc≠ .mark .disable∧e.loc≠ .mark .enable
structure qm (vE:Nat→Prop) (w w':World):Prop where
 keep:∀b,vE b→w'.heap[b]? =w.heap[b]?
 size:w.heap.size≤w'.heap.size
 os:w'.os=w.os
 o:w'.output=w.output
 tape:w'.tape=w.tape
theorem qm.refl {vE:Nat→Prop} (w:World):qm vE w w:=⟨fun _ _=>rfl,Nat.le_refl _,rfl,rfl,rfl⟩
theorem qm.at {vE:Nat→Prop} (w:World) (d:Nat):qm vE w (w.at d):=⟨fun _ _=>rfl,Nat.le_refl _,rfl,rfl,rfl⟩
theorem qm.trans {vE:Nat→Prop} {a b c:World} (h:qm vE a b) (h':qm vE b c):qm vE a c:=
 ⟨fun x hx=>(h'.keep x hx).trans (h.keep x hx),Nat.le_trans h.size h'.size,h'.os.trans h.os,h'.o.trans h.o,h'.tape.trans h.tape⟩
inductive BT (P:Program) (Wg:Nat) (vE:Nat→Prop) (Stop:Goroutine→World→Prop):Goroutine→World→Prop
 |stop {g:Goroutine} {w:World}:(∀d,Stop g (w.at d))→BT P Wg vE Stop g w
 |step {g:Goroutine} {w:World}:g.status= .running→(∀d,∃g' w' es,stepG P true g (w.at d)= .go g' w' es∧(∀e∈es,EvN Wg e)∧qm vE (w.at d) w')→
   (∀d g' w' es,stepG P true g (w.at d)= .go g' w' es→BT P Wg vE Stop g' w')→BT P Wg vE Stop g w
section
variable {P:Program} {Wg:Nat} {vE:Nat→Prop} {Stop Stop':Goroutine→World→Prop}
theorem BT.at {g:Goroutine} {w:World} (h:BT P Wg vE Stop g w) (d:Nat):BT P Wg vE Stop g (w.at d):=by
 cases h with
 |stop h=>exact .stop h
 |step h1 h2 h3=>exact .step h1 h2 h3
theorem BT.bind {g:Goroutine} {w:World} (h:BT P Wg vE Stop g w) (hs:∀g w,Stop g w→BT P Wg vE Stop' g w):BT P Wg vE Stop' g w:=by
 induction h with
 | @stop g w h=>exact(hs _ _ (h w.drawn))
 |step h1 h2 _ ih=>exact .step h1 h2 ih
theorem BT.uJ:∀{m:Nat} {g:Goroutine} {w:World},Goes P true AtRel DC0 Stop m g w→BT P Wg vE Stop g w
 | 0,g,w,h=>.stop fun d=>h _ ⟨d,rfl⟩
 |m+1,g,w,h=>by
  rcases h with h|⟨hr,h⟩
  ·exact .stop fun d=>h _ ⟨d,rfl⟩
  ·refine .step hr (fun d=>?_) fun d g' w' es hs=>?_
   ·obtain⟨g',w',es,e,⟨rfl,rfl⟩,_⟩:=goes_elim (h _ ⟨d,rfl⟩);exact⟨g',_,#[],e,by simp,.refl _⟩
   ·obtain⟨g2,w2,es2,e,_,h3⟩:=goes_elim (h _ ⟨d,rfl⟩);rw[hs]at e;simp only[GStep.go.injEq]at e;obtain⟨rfl,rfl,_⟩:=e;exact BT.uJ h3
theorem Ua {Bs S:Nat→Prop} {lo hi:Nat} {e:Event} (h:Wj Bs S lo hi e) (h1:¬S Wg) (h2:Wg<lo) (h3:¬Bs Wg):EvN Wg e:=by
 refine⟨fun x hx hs=>?_,(jB (Wg:=Wg) h).1,(jB (Wg:=Wg) h).2.1⟩;obtain⟨a,ha,hb⟩:=hs;obtain⟨loc,wr,sy⟩:=e;rcases h with⟨a',h4,h5⟩|⟨r,h4,h5⟩|⟨m,h4,h5⟩
 ·simp only at h4;subst h4;simp[MemAct.ofEvent,MemAct.touch?]at hx;subst hx;simp only[Loc.cell.injEq]at ha;subst ha;rcases h5 with h5|h5|h5
  ·exact h1 (hb▸h5)
  ·omega
  ·exact h3 (hb▸h5.1)
 ·simp only at h4;subst h4;cases wr<;>cases sy<;>simp[MemAct.ofEvent,MemAct.touch?]at hx<;>(subst hx;cases ha)
 ·simp only at h4;subst h4;cases m<;>first|(simp[MemAct.ofEvent,MemAct.touch?]at hx;done)|cases h5
theorem BT.ZF {Bs:Nat→Prop} {Stp:(Nat→Prop)→Goroutine→World→Prop} (h3:¬Bs Wg) (hs:∀S g w,Stp S g w→(∀b,vE b→b<w.heap.size→¬S b)→Stop g w):∀{r:Rk} {S:Nat→Prop} {g:Goroutine} {w:World},GT P true Bs Stp r S g w→¬S Wg→Wg<w.heap.size→(∀b,vE b→b<w.heap.size∧¬S b)→BT P Wg vE Stop g w:=by
 intro r;induction r with
 |none=>intro S g w h;exact h.elim
 |leaf=>intro S g w h h1 h2 h4;exact .stop fun d=>hs S _ _ (h _ ⟨fun _ _=>rfl,Nat.le_refl _,rfl⟩) fun b hb _=>(h4 b hb).2
 |node f ih=>
  intro S g w h h1 h2 h4;refine .step h.1 (fun d=>?_) fun d g' w' es hst=>?_
  ·obtain⟨g',w',es,e,y,_⟩:=h.2 (w.at d) ⟨fun _ _=>rfl,Nat.le_refl _,rfl⟩;exact⟨g',w',es,e,fun x hx=>Ua (y.evs x hx) h1 h2 h3,⟨fun b hb=>y.keep b (h4 b hb).1 (h4 b hb).2,y.size,y.os,y.output,y.tape⟩⟩
  ·obtain⟨g2,w2,es2,e,y,h5⟩:=h.2 (w.at d) ⟨fun _ _=>rfl,Nat.le_refl _,rfl⟩;rw[hst]at e;simp only[GStep.go.injEq]at e;obtain⟨rfl,rfl,_⟩:=e;have hz:w.heap.size≤w'.heap.size:=y.size;refine ih _ h5 (fun x=>?_) (by omega) fun b hb=>⟨by have:=(h4 b hb).1;omega,fun x=>?_⟩
   ·rcases x with x|x
    ·exact h1 x
    ·have:w.heap.size≤Wg:=x.1;omega
   ·rcases x with x|x
    ·exact(h4 b hb).2 x
    ·have:w.heap.size≤b:=x.1;have:=(h4 b hb).1;omega
theorem aan {g:Nat} {fn:FuncId} {pos:String} {es:Array Event}:∀op∈MemOp.ofEvents g fn pos es,op.g=g:=fun _ h=>by obtain⟨_,_,rfl⟩:=Go.Conc.mem_ofEvents h;rfl
theorem Gu.grow {t u:Trace} (h:Gu Wg t) (cl:∀said,¬Race said (t++u)) (new:∀z∈u,z.act.touch?≠none→z.g=0) (ov:(t++u).HandedOver) (ear:Deaf (t++u) 0=Deaf t 0):Gu Wg (t++u):=by
 refine⟨cl,fun i x hx mem=>?_,ov,ear.trans h.hears⟩;obtain⟨z,hz,hxz⟩:=touch_of hx;rcases getElem?_append_cases hz with⟨_,o⟩|⟨_,n⟩
 ·rcases h.known i x ((touchAt_of o).trans hxz) mem with y|y
  ·exact .inl (y.app u)
  ·exact .inr y
 ·have:=knows_own hz;rw[new z n (by rw[hxz];nofun)]at this;exact .inl this
theorem Gu.app0 {t u:Trace} (h:Gu Wg t) (hu:∀op∈u,op.g=0) (hs:∀op∈u,∀b,op.act.touch?=some b→¬ShN Wg b.loc) (hd:Deaf (t++u) 0=Deaf t 0):Gu Wg (t++u):=
 h.grow (fun said=>noRace_append (h.clean said) hu fun i x hx op ho b hb cf=>(h.known i x hx cf.2.1).resolve_right fun y=>hs op ho b hb (cf.1▸y.1)) (fun z hz _=>hu z hz) (handedOver_app h.over fun op ho=>.inl (hu op ho)) hd
theorem Gu.own {t:Trace} (h:Gu Wg t) {fn:FuncId} {pos:String} {es:Array Event} (hes:∀e∈es,EvN Wg e):Gu Wg (t++MemOp.ofEvents 0 fn pos es):=by refine h.app0 aan (fun op ho b hb=>?_) ((Deaf_own t _ _ _ _).trans (deafBehind_still (fun e he=>(hes e he).2) _));obtain⟨e,he,rfl⟩:=Go.Conc.mem_ofEvents ho;exact(hes e he).1 b hb
theorem Gu.mute {t:Trace} (h:Gu Wg t) {g:Nat} (hg:g≠0) {fn:FuncId} {pos:String} {es:Array Event} (hm:∀e∈es,e.mute=true):Gu Wg (t++MemOp.ofEvents g fn pos es):=by
 have quiet:∀op∈MemOp.ofEvents g fn pos es,op.act.touch?=none:=fun op ho=>by obtain⟨e,he,rfl⟩:=Go.Conc.mem_ofEvents ho;exact touch_mute (hm e he)
 exact h.grow (fun said=>noRace_append (h.clean said) aan fun _ _ _ op ho b hb=>by simp[quiet op ho]at hb) (fun z hz q=>(q (quiet z hz)).elim) (handedOver_app h.over fun op ho=>.inr (quiet op ho)) (Deaf_other t hg _ aan)
section
variable {t:Trace} {gs:Array Goroutine} {q:Nat→Nat} {a:Goroutine}
theorem aas (hL:Leavers P t gs q) (h0:gs[0]? =some a) (hr:a.status= .running):∀g∈gs,awake g:=fun g hg=>by
 obtain⟨i,e⟩:=Array.mem_iff_getElem?.1 hg;rcases i with _|i
 ·rw[Option.some.inj (e.symm.trans h0)];exact awake_of (.inl hr)
 ·rcases(hL.old (i+1) g (Nat.succ_pos i) e).status with z|z
  ·exact awake_of (.inl z)
  ·exact awake_of (.inr (.inr z))
theorem aar (hL:Leavers P t gs q) (h0:gs[0]? =some a) (g g':Goroutine) (w:World) (fn:FuncId) (pos:String) (es:Array Event):Leavers P (t++MemOp.ofEvents 0 fn pos es) ((gs.map (woken P g g' w)).setIfInBounds 0 g') q:=by
 have far:∀k,0<k→Deaf (t++MemOp.ofEvents 0 fn pos es) k=Deaf t k:=fun k l=>Deaf_other t (Nat.ne_of_lt l) _ aan;refine⟨fun i x l e=>?_,fun i l=>?_⟩
 ·rw[Array.getElem?_setIfInBounds_ne (Nat.ne_of_lt l),Array.getElem?_map]at e;obtain⟨y,hy,rfl⟩:=Option.map_eq_some_iff.1 e;have z:=hL.old i y l hy;rw[woken_quitsD z,far i l];exact z
 ·rw[Array.size_setIfInBounds,Array.size_map]at l;exact(far i (Nat.lt_of_lt_of_le (Array.getElem?_eq_some_iff.1 h0).1 l)).trans (hL.above i l)
theorem aao (hL:Leavers P t gs q) (h0:gs[0]? =some a) (hr:a.status= .running) {i:Nat} {g:Goroutine} (l:0<i) (hi:gs[i]? =some g) (hg:g.status= .running):∃k g' es,sumTo gs.size (upd q i k)<sumTo gs.size q∧(∀e∈es,e.mute=true)∧
 (∀w,stepG P (i==0) g w= .go g' w es)∧∀w fn pos,((gs.map (woken P g g' w)).setIfInBounds i g')[0]? =some a∧Leavers P (t++MemOp.ofEvents i fn pos es) ((gs.map (woken P g g' w)).setIfInBounds i g') (upd q i k):=by
 have z:=hL.old i g l hi;have lt:=(Array.getElem?_eq_some_iff.1 hi).1;generalize hq:q i=n at z;rcases n with _|k
 ·exact absurd (z.1.symm.trans hg) nofun
 ·rcases z with z|⟨_,g',es,mute,step,z⟩
  ·exact absurd (z.1.symm.trans hg) nofun
  ·refine⟨k,g',es,?_,mute,fun w=>?_,fun w fn pos=>⟨?_,fun j x lj e=>?_,fun j lj=>?_⟩⟩
   ·have:sumTo gs.size (upd q i k)+q i=sumTo gs.size q+k:=sumTo_upd q k id lt;omega
   ·rw[show(i==0)=false from beq_false_of_ne (Nat.ne_of_gt l)];exact step w
   ·rw[Array.getElem?_setIfInBounds_ne (Nat.ne_of_gt l),Array.getElem?_map,h0,Option.map_some];unfold Go.Conc.woken;split
    ·rw[again_running _ (.inl hr)]
    ·rfl
   ·by_cases c:i=j
    ·subst c;rw[Array.getElem?_setIfInBounds_self_of_lt (by simpa using lt)]at e;rw[←Option.some.inj e,Deaf_own,upd_same];exact z
    ·rw[Array.getElem?_setIfInBounds_ne c,Array.getElem?_map]at e;obtain⟨y,hy,rfl⟩:=Option.map_eq_some_iff.1 e;have z':=hL.old j y lj hy;rw[woken_quitsD z',upd_ne _ _ (Ne.symm c),Deaf_other t c _ aan];exact z'
   ·rw[Array.size_setIfInBounds,Array.size_map]at lj;exact(Deaf_other t (by omega) _ aan).trans (hL.above j lj)
end
theorem BT.runs {a:Goroutine} {w:World} (h:BT P Wg vE Stop a w) (hrun:∀g w,Stop g w→g.status= .running):∀(gs:Array Goroutine) (sl:Option (Nat × Nat)) (t:Trace) (q:Nat→Nat),gs[0]? =some a→Leavers P t gs q→Gu Wg t→
 ∃N gs' sl' t' q' a' w',runNT P N (crowd gs w sl) t=(.next (crowd gs' w' sl'),t')∧gs'[0]? =some a'∧Stop a' w'∧qm vE w w'∧Leavers P t' gs' q'∧Gu Wg t':=by
 induction h with
 | @stop a w h=>intro gs sl t q h0 hL hP;exact⟨0,gs,sl,t,q,a,w,rfl,h0,h w.drawn,.refl w,hL,hP⟩
 | @step a w hr h1 h2 ih=>
   intro gs sl t q;generalize hM:sumTo gs.size q=M;induction M using Nat.strongRecOn generalizing gs sl t q w with
   |_ M ihM=>
    intro h0 hL hP;obtain⟨i,g,d,sl',hi,hg,hst⟩:=crowd_pick (P:=P) (w:=w) (sl:=sl) (aas hL h0 hr) ⟨0,a,h0,hr⟩;rcases Nat.eq_zero_or_pos i with rfl|l
    ·obtain rfl:=Option.some.inj (h0.symm.trans hi);obtain⟨g',w',es,hs,hev,hk⟩:=h1 d;have ran:=runT_crowd_go (P:=P) (sl:=sl') (i:=0) hi (show stepG P (0==0) a (w.at d)=_ from hs);obtain⟨N,gs2,sl2,t2,q2,a2,w2,r1,r2,r3,r4,r5,r6⟩:=ih d g' w' es hs _ sl' _ q (by simp[(Array.getElem?_eq_some_iff.1 h0).1]) (aar hL h0 a g' w' a.frame.fn a.frame.place es) (hP.own hev);exact⟨N+1,gs2,sl2,t2,q2,a2,w2,by simp only[runNT,hst,ran];exact r1,r2,r3,((qm.at w d).trans hk).trans r4,r5,r6⟩
    ·obtain⟨k,g',es,less,mute,hs,rest⟩:=aao hL h0 hr l hi hg;have ran:=runT_crowd_go (P:=P) (sl:=sl') (i:=i) hi (hs (w.at d));obtain⟨aaj,hL'⟩:=rest (w.at d) g.frame.fn g.frame.place;obtain⟨N,gs2,sl2,t2,q2,a2,w2,r1,r2,r3,r4,r5,r6⟩:=ihM _ (hM▸less) (w:=w.at d) h1 h2 ih _ sl' _ (upd q i k) (by simp) aaj hL' (hP.mute (Nat.ne_of_gt l) mute);exact⟨N+1,gs2,sl2,t2,q2,a2,w2,by simp only[runNT,hst,ran];exact r1,r2,r3,(qm.at w d).trans r4,r5,r6⟩
end
end Go.Ren
