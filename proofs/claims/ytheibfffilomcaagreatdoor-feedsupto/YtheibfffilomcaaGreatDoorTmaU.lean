import Derived.Below
import Derived.WalkKit
import Derived.Laws.BitsLemmas
import Derived.Test.YtheibfffilomcaaGreatDoorRows
import Derived.WalkSpells
import Derived.WalkLawsBesides
set_option linter.all false
set_option maxHeartbeats 400000
namespace Go.Proofs.YtheibfffilomcaaGreatDoor
open Go.RowKit Go.Proofs.Tryz
variable {base rb ro:Nat} {L:List Int}
theorem _root_.Go.RowKit.Hid.o{p:Prop}(h:Go.RowKit.Hid p):p:=h
open Go.RowKit
abbrev ai:=@if_neg
abbrev dA:=@World.cell?_of_block
abbrev ak:=@if_pos
abbrev eG:=@List.getElem?_eq_getElem
abbrev bV:=@heap_alloc_new
abbrev bG:=@cell_of_row
abbrev bX:=@bodyPost_ret
abbrev bN:=@Nat.le_refl
abbrev fU:=@List.length_append
abbrev fE:=@List.length_cons
abbrev gJ:=@List.getElem?_eq_some_iff
abbrev dx:=@Nat.zero_le
abbrev dz:=@results_none
abbrev fD:=@List.set_cons_zero
abbrev kJ:=@List.length_replicate
abbrev fJ:=@Nat.lt_of_lt_of_le
abbrev fP:=@List.set_cons_succ
abbrev iC:=@ByteArray.size_append
abbrev eP:=@List.length_nil
abbrev f_:=@List.append_assoc
abbrev iH:=@List.mem_of_getElem?
abbrev fC:=@wpList_load_row
abbrev o7:=@List.take_succ_eq_append_getElem
abbrev gz:=@Option.some.inj
abbrev gp:=@List.append_nil
abbrev gK:=@Below.heap_alloc
abbrev jg:=@List.mem_singleton
abbrev dU:=@Below.refl
abbrev og:=@List.getElem?_append_right
abbrev iP:=@decide_eq_true
abbrev jh:=@decide_eq_false
abbrev jU:=@Result.andThen_ok
abbrev l6:=@List.take_of_length_le
abbrev iD:=@Nat.le_trans
abbrev kg:=@List.length_take
abbrev mJ:=@List.getElem?_take
abbrev lF:=@Int.toNat_natCast
abbrev qA:=@List.getElem?_append_left
abbrev qB:=@List.drop_eq_nil_of_le
abbrev lG:=@List.length_set
abbrev uH:=@List.drop_eq_getElem_cons
abbrev kK:=@List.mem_cons
abbrev mP:=@List.nil_append
abbrev jV:=@Sem.run_bind
abbrev nM:=@List.mem_append
abbrev pV:=@of_decide_eq_true
abbrev pW:=@List.getElem?_map
abbrev pX:=@List.not_mem_nil
abbrev o8:=@List.length_drop
abbrev wK:=@Array.getElem?_eq_some_iff
abbrev lH:=@Nat.zero_add
abbrev rf:=@List.getElem?_drop
abbrev mK:=@Sem.run_pure
abbrev zT:=@List.eq_nil_of_length_eq_zero
abbrev wL:=@List.drop_of_length_le
abbrev oh:=@frozen_of_row
abbrev rR:=@heap_setCell_same
abbrev wM:=@List.getElem?_eq_none
abbrev oq:=@wpList_plain
abbrev uI:=@heap_setCell_other
abbrev rT:=@Nat.min_eq_left
abbrev zU:=@Array.getElem?_eq_none
abbrev xS:=@World.ownsRow.alloc
abbrev AJ:=@List.eq_of_mem_replicate
abbrev uu:=@List.take_left
abbrev xU:=@World.ownsRow.kept
abbrev CW:=@List.getElem?_replicate
abbrev wN:=@World.ownsRow.lt
abbrev wO:=@Nat.min_eq_right
abbrev xV:=@List.cons_append
abbrev xW:=@Option.some.injEq
abbrev xX:=@List.getElem?_set
abbrev CX:=@List.set_append_right
abbrev AL:=@List.mem_of_mem_take
abbrev uw:=@Nat.add_zero
abbrev wQ:=@UInt8.toNat_lt
abbrev AO:=@List.replicate_succ
abbrev AP:=@List.drop_succ_cons
abbrev CY:=@World.frozen?_of_block
abbrev zV:=@Option.bind_some
abbrev zW:=@List.getElem_mem
abbrev AQ:=@Below.heap_setCell
abbrev CZ:=@List.getElem?_toArray
abbrev ou:=@if_false
abbrev C9:=@Bool.and_eq_true_iff
abbrev AR:=@decide_eq_true_eq
abbrev AU:=@World.ownsRow_nil
abbrev FZ:=@World.cell?_setCell_same
abbrev pY:=@or_false
abbrev F4:=@World.block_lt_of_cell?
abbrev F5:=@List.getElem?_cons_succ
theorem afY(a c:Nat)(hc:c<64):(a*64) ||| c=a*64+c:=by have:=Nat.two_pow_add_eq_or_of_lt (i:=6) (b:=c) (by omega) a;rw[Nat.mul_comm];exact this.symm
theorem Dp(a c:Int)(h0:0≤a)(h1:a<1099511627776)(h2:0≤c)(h3:c<64):bits .or .i64 (a*64) c=a*64+c:=by obtain⟨x,rfl⟩:=Int.eq_ofNat_of_zero_le h0;obtain⟨y,rfl⟩:=Int.eq_ofNat_of_zero_le h2;have:=(bits_nat .i64 63 (by decide) (fun n h0 h1=>by rw[IntKind.wrap_i64];omega) (x*64) y (by omega) (by omega)).2;rw[afY x y (by omega)]at this;simpa using this
structure RS where
 m:Int
 lo:Int
 hi:Int
 val:Int
def RS.zero:RS:=⟨0,0,0,0⟩
def lead (b:Int):Option RS:=
 if b<194 then none else if b≤223 then some ⟨1,128,191,b % 32⟩else if b≤224 then some ⟨2,160,191,b % 16⟩else if b≤236 then some ⟨2,128,191,b % 16⟩
 else if b≤237 then some ⟨2,128,159,b % 16⟩else if b≤239 then some ⟨2,128,191,b % 16⟩else if b≤240 then some ⟨3,144,191,b % 8⟩
 else if b≤243 then some ⟨3,128,191,b % 8⟩else if b≤244 then some ⟨3,128,143,b % 8⟩else none
def RS.uC (s:RS) (b:Int):RS × List Int:=
 if b<128 then(s,[b])else match lead b with
  |some r=>(r,[])
  |none=>(s,[65533])
def RS.fin (s:RS):RS × List Int:=if s.m=0 then(s,[])else(.zero,[65533])
def RS.join (s:RS) (b:Int):RS × List Int:=
 if s.m=1 then(.zero,[s.val*64+b % 64])else(⟨s.m-1,128,191,s.val*64+b % 64⟩,[])
def RS.take (s:RS) (b:Int):RS × List Int:=
 if s.m=0 then s.uC b else if b<s.lo∨s.hi<b then((s.fin.1.uC b).1,s.fin.2++(s.fin.1.uC b).2)else s.join b
structure RS.ok (s:RS):Prop where
 m0:0≤s.m
 m3:s.m≤3
 v0:0≤s.val
 v1:s.m=1→s.val<32768
 v2:s.m=2→s.val<512
 v3:s.m=3→s.val<8
theorem RS.ok.zero:RS.zero.ok:=⟨by decide,by decide,by decide,fun h=>by simp[RS.zero]at h,fun h=>by simp[RS.zero]at h,fun h=>by simp[RS.zero]at h⟩
theorem U5{b:Int}{r:RS}(h:lead b=some r):r.ok:=by
 unfold lead at h
 repeat' split at h
 all_goals first|(cases h;done)|(cases h;constructor<;>dsimp only<;>omega)
theorem RS.ok.uC{s:RS}(h:s.ok)(b:Int):(s.uC b).1.ok:=by
 unfold RS.uC;split
 ·exact h
 ·split
  ·exact U5 ‹_›
  ·exact h
theorem RS.ok.fin{s:RS}(h:s.ok):s.fin.1.ok:=by
 unfold RS.fin;split
 ·exact h
 ·exact RS.ok.zero
theorem RS.ok.join{s:RS}(h:s.ok)(b:Int)(hm:s.m≠0):(s.join b).1.ok:=by
 unfold RS.join;obtain⟨a1,a2,a3,a4,a5,a6⟩:=h;split
 ·exact RS.ok.zero
 ·constructor<;>dsimp only<;>omega
theorem RS.ok.take{s:RS}(h:s.ok)(b:Int):(s.take b).1.ok:=by
 unfold RS.take;split
 ·exact h.uC b
 ·split
  ·exact h.fin.uC b
  ·exact h.join b ‹_›
theorem LB(s:RS)(b:Int):(s.uC b).2.length≤1:=by
 unfold RS.uC;split
 ·simp
 ·split<;>simp
theorem take_len(s:RS)(b:Int):(s.take b).2.length≤2:=by
 unfold RS.take;have h1:=LB s b;have h2:=LB s.fin.1 b;split
 ·omega
 ·split
  ·rw[fU];have:s.fin.2.length≤1:=by unfold RS.fin;split<;>simp
   omega
  ·unfold RS.join;split<;>simp
def RS.run (s:RS):List Int→RS × List Int
 | []=>(s,[])
 |b::r=>((RS.run (s.take b).1 r).1,(s.take b).2++(RS.run (s.take b).1 r).2)
theorem Vr(s:RS)(l:List Int):(s.run l).2.length≤2*l.length:=by
 induction l generalizing s with
 |nil=>simp[RS.run]
 |cons b l ih=>have h1:=take_len s b;have h2:=ih (s.take b).1;simp only[RS.run,fU,fE];omega
theorem RS.ok.run{s:RS}(h:s.ok)(l:List Int):(s.run l).1.ok:=by
 induction l generalizing s with
 |nil=>exact h
 |cons b l ih=>exact ih (h.take b)
def decode (l:List Int):List Int:=(RS.zero.run l).2++(RS.zero.run l).1.fin.2
theorem info3:(prog.info? 3).map (fun i=>(i.zero,i.size,i.bytes))=some (some (.int .i64 0),1,8):=by kernel_rfl
structure mM (w:World) (rb ro:Nat) (s:RS):Prop where
 c0:w.cell? ⟨rb,ro,none⟩=some (.int .i64 s.m)
 c1:w.cell? ⟨rb,ro+1,none⟩=some (.int .u8 s.lo)
 c2:w.cell? ⟨rb,ro+2,none⟩=some (.int .u8 s.hi)
 c3:w.cell? ⟨rb,ro+3,none⟩=some (.int .i64 s.val)
 f:∀j,j<4→w.frozen? ⟨rb,ro+j,none⟩=false
def gI (w:World) (base:Nat) (v:Value) (L:List Int):Prop:=w.ownsRow base 3 1 v L.length (L.map (Value.int .i64))
structure Kp (base rb ro:Nat) (w w':World):Prop where
 os:w'.os=w.os
 tape:w'.tape=w.tape
 output:w'.output=w.output
 size:w.heap.size≤w'.heap.size
 block:∀k,k<base→k≠rb→w'.heap[k]? =w.heap[k]?
 cell:∀o,(o<ro∨ro+4≤o)→w'.cell? ⟨rb,o,none⟩=w.cell? ⟨rb,o,none⟩
 frozen:∀o,w'.frozen? ⟨rb,o,none⟩=w.frozen? ⟨rb,o,none⟩
theorem Kp.refl(base rb ro:Nat)(w:World):Kp base rb ro w w:=⟨rfl,rfl,rfl,bN _,fun _ _ _=>rfl,fun _ _=>rfl,fun _=>rfl⟩
theorem Kp.trans{a b c:World}(h:Kp base rb ro a b)(k:Kp base rb ro b c):Kp base rb ro a c:=
 ⟨k.os.trans h.os,k.tape.trans h.tape,k.output.trans h.output,iD h.size k.size,fun i hi hn=>(k.block i hi hn).trans (h.block i hi hn),fun o ho=>(k.cell o ho).trans (h.cell o ho),fun o=>(k.frozen o).trans (h.frozen o)⟩
theorem Kp.of_below{w w':World}(h:Below base w w')(hrb:rb<base):Kp base rb ro w w':=
 ⟨h.os,h.tape,h.output,h.size,fun k hk _=>h.block k hk,fun _ _=>h.cell hrb,fun _=>h.frozen hrb⟩
theorem Kp.below{B:Nat}{w w':World}(h:Kp base rb ro w w')(hB:B≤rb)(hb:rb≤base):Below B w w':=
 ⟨h.os,h.tape,h.output,h.size,fun k hk=>h.block k (by omega) (by omega)⟩
theorem dK(w:World)(rb a b:Nat)(x:Value)(h:a≠b):(w.setCell ⟨rb,a,none⟩ x).cell? ⟨rb,b,none⟩=w.cell? ⟨rb,b,none⟩:=by exact World.cell?_setCell_other _ _ _ _ (by simp)
theorem Kp.set{w:World}(j:Nat)(x:Value)(hj:ro≤j∧j<ro+4):Kp base rb ro w (w.setCell ⟨rb,j,none⟩ x):=by refine⟨rfl,rfl,rfl,by simp[World.setCell],fun k _ hn=>AQ _ _ _ _ hn,fun o ho=>dK _ _ _ _ _ (by omega),fun o=>?_⟩;simp
def World.iQ (w:World) (rb ro:Nat) (s:RS):World:=
 (((w.setCell ⟨rb,ro,none⟩ (.int .i64 s.m)).setCell ⟨rb,ro+1,none⟩ (.int .u8 s.lo)).setCell ⟨rb,ro+2,none⟩ (.int .u8 s.hi)).setCell ⟨rb,ro+3,none⟩ (.int .i64 s.val)
theorem BV(w:World)(s:RS):Kp base rb ro w (World.iQ w rb ro s):=
 (((Kp.set ro _ (by omega)).trans (Kp.set (ro+1) _ (by omega))).trans (Kp.set (ro+2) _ (by omega))).trans (Kp.set (ro+3) _ (by omega))
theorem yK{w:World}{s0:RS}(h:mM w rb ro s0)(s:RS):mM (World.iQ w rb ro s) rb ro s:=by
 have k:=BV (base:=0) (rb:=rb) (ro:=ro) w s;unfold World.iQ;refine⟨?_,?_,?_,?_,fun j hj=>?_⟩
 ·rw[dK _ _ _ _ _ (by omega),dK _ _ _ _ _ (by omega),dK _ _ _ _ _ (by omega)];exact FZ _ _ _ h.c0
 ·rw[dK _ _ _ _ _ (by omega),dK _ _ _ _ _ (by omega)];exact FZ _ _ _ ((dK _ _ _ _ _ (by omega)).trans h.c1)
 ·rw[dK _ _ _ _ _ (by omega)];exact FZ _ _ _ ((dK _ _ _ _ _ (by omega)).trans ((dK _ _ _ _ _ (by omega)).trans h.c2))
 ·exact FZ _ _ _ ((dK _ _ _ _ _ (by omega)).trans ((dK _ _ _ _ _ (by omega)).trans ((dK _ _ _ _ _ (by omega)).trans h.c3)))
 ·exact(k.frozen _).trans (h.f j hj)
theorem mM.kept{rb ro:Nat}{w w':World}{s:RS}(h:mM w rb ro s)(hb:w'.heap[rb]? =w.heap[rb]?):mM w' rb ro s:=
 ⟨(dA hb).trans h.c0,(dA hb).trans h.c1,(dA hb).trans h.c2,(dA hb).trans h.c3,fun j hj=>(CY hb).trans (h.f j hj)⟩
theorem gI.iQ{w:World}{v:Value}(h:gI w base v L)(hrb:rb<base)(s:RS):gI (World.iQ w rb ro s) base v L:=by unfold World.iQ gI;exact ownsRow_setCell_below (ownsRow_setCell_below (ownsRow_setCell_below (ownsRow_setCell_below h hrb _) hrb _) hrb _) hrb _
theorem gI.one{w:World}{v':Value}{x:Int}(h:w.ownsRow base 3 1 v' (L.length+1) (L.map (Value.int .i64)++[.int .i64 x])):gI w base v' (L++[x]):=by unfold gI;simpa using h
theorem AA{ops:Array Oper}{rest:List Oper}{o:Oper}{a:Act}{Q:Exit→Act→World→Prop}(u:World)(hgd:o.guard=none)(s x:Operand)(ho:o.op= .call {callee:=.builtin .append,args:=#[s,x],argTypes:=#[53,53]})(base:Nat)(v:Value)(L:List Int)(y:Int)(hs:a.eval s=v)(own:gI u base v L)(g:Nat)(hg:g=u.heap.size)(hx:a.eval x= .slice (some ⟨g,0,none⟩) 1 1)(hL:L.length≤1000000000)(hb:base≤u.heap.size)(h:∀v' w',gI w' base v' (L++[y])→Below base u w'→wpList prog ops Q rest (a.put o.dst v') w'):wpList prog ops Q (o::rest) a (u.alloc (.cells #[.int .i64 y] 3)):=by
 obtain⟨i0,hi,hz0,hz1,hz2⟩:=info_parts info3;subst hg;refine wpList_append_own _ hgd s x 53 ho base 3 i0 (.int .i64 0) 1 8 underlying53 hi hz0 hz1 hz2 rfl (by decide) v _ _ hs (xS own _) ⟨u.heap.size,0,none⟩ 1 1 [.int .i64 y] hx rfl (cell_one_new _ _ _) ?_ ?_ ?_ ?_ ?_
 ·intro z hz;simp at hz;subst hz;rfl
 ·unfold maxLen;omega
 ·omega
 ·simp;omega
 ·intro v' w' hown hgrow _;refine h v' w' (gI.one hown) ?_;refine((dU base u).alloc hb _).grown hgrow (by simp;omega) ?_;intro k hk;exact((wN own) k hk).1
def iT:Array Value:=#[.int .u8 194,.int .u8 223,.int .u8 31,.int .i64 1,.int .u8 128,.int .u8 191,.int .u8 224,.int .u8 224,.int .u8 15,.int .i64 2,.int .u8 160,.int .u8 191,
 .int .u8 225,.int .u8 236,.int .u8 15,.int .i64 2,.int .u8 128,.int .u8 191,.int .u8 237,.int .u8 237,.int .u8 15,.int .i64 2,.int .u8 128,.int .u8 159,
 .int .u8 238,.int .u8 239,.int .u8 15,.int .i64 2,.int .u8 128,.int .u8 191,.int .u8 240,.int .u8 240,.int .u8 7,.int .i64 3,.int .u8 144,.int .u8 191,
 .int .u8 241,.int .u8 243,.int .u8 7,.int .i64 3,.int .u8 128,.int .u8 191,.int .u8 244,.int .u8 244,.int .u8 7,.int .i64 3,.int .u8 128,.int .u8 143]
def qb (w:World):Prop:=∃t fr,w.heap[0]? =some (.cells iT t fr)
theorem qb.kept{w w':World}(h:qb w)(hb:w'.heap[0]? =w.heap[0]?):qb w':=by obtain⟨t,fr,h⟩:=h;exact⟨t,fr,hb.trans h⟩
theorem gI.below{w w':World}{v:Value}(h:gI w base v L)(hb:Below w.heap.size w w'):gI w' base v L:=
 xU (row:=none) h ⟨hb.os,hb.tape,hb.output,hb.size,fun k hk _=>hb.block k hk⟩ (by cases hv:v.ownBlock<;>simp)
theorem Qs(rb ro:Nat)(s:RS)(v:Value)(w:World)(rd:mM w rb ro s)(hm:(s.m==0)=true):
 Calls prog 51 #[.pointer (some ⟨rb,ro,none⟩),v] w fun e w'=>e= .returned v∧w'=w:=by
 have c0:=rd.c0;go_enter func51,ntmps51;go_wp2_with fail;go_ret;exact⟨rfl,rfl⟩
theorem U0(rb ro:Nat)(s:RS)(b:Int)(v:Value)(w:World)(rd:mM w rb ro s)(hm:(s.m==1)=false)(hm0:0≤s.m)(hm3:s.m≤3)(hv:0≤s.val)(hv':s.val<32768)(hb0:0≤b)(hb1:b<256):
 Calls prog 52 #[.pointer (some ⟨rb,ro,none⟩),v,.int .u8 b] w fun e w'=>e= .returned v∧w'=World.iQ w rb ro ⟨s.m-1,128,191,s.val*64+b % 64⟩:=by
 have abO:=Dp s.val (b % 64) hv (by omega) (by omega) (by omega);have c0:=rd.c0;have c1:=rd.c1;have c2:=rd.c2;have c3:=rd.c3;have f0:=rd.f 0 (by omega);have f1:=rd.f 1 (by omega);have f2:=rd.f 2 (by omega);have f3:=rd.f 3 (by omega);simp only[uw]at f0;go_enter func52,ntmps52;go_wp2_with fail;go_ret;exact⟨rfl,rfl⟩
theorem YI:(prog.info? 154).map (·.size)=some iT.size:=by kernel_rfl
theorem afe(w:World):(Instr.index 154 (.agg iT) (.int .i64 0)).run prog w= .ok (.agg #[.int .u8 194,.int .u8 223,.int .u8 31,.int .i64 1,.int .u8 128,.int .u8 191]) w:=by kernel_rfl
theorem aff(w:World):(Instr.index 154 (.agg iT) (.int .i64 1)).run prog w= .ok (.agg #[.int .u8 224,.int .u8 224,.int .u8 15,.int .i64 2,.int .u8 160,.int .u8 191]) w:=by kernel_rfl
theorem afg(w:World):(Instr.index 154 (.agg iT) (.int .i64 2)).run prog w= .ok (.agg #[.int .u8 225,.int .u8 236,.int .u8 15,.int .i64 2,.int .u8 128,.int .u8 191]) w:=by kernel_rfl
theorem afh(w:World):(Instr.index 154 (.agg iT) (.int .i64 3)).run prog w= .ok (.agg #[.int .u8 237,.int .u8 237,.int .u8 15,.int .i64 2,.int .u8 128,.int .u8 159]) w:=by kernel_rfl
theorem afi(w:World):(Instr.index 154 (.agg iT) (.int .i64 4)).run prog w= .ok (.agg #[.int .u8 238,.int .u8 239,.int .u8 15,.int .i64 2,.int .u8 128,.int .u8 191]) w:=by kernel_rfl
theorem afj(w:World):(Instr.index 154 (.agg iT) (.int .i64 5)).run prog w= .ok (.agg #[.int .u8 240,.int .u8 240,.int .u8 7,.int .i64 3,.int .u8 144,.int .u8 191]) w:=by kernel_rfl
theorem afk(w:World):(Instr.index 154 (.agg iT) (.int .i64 6)).run prog w= .ok (.agg #[.int .u8 241,.int .u8 243,.int .u8 7,.int .i64 3,.int .u8 128,.int .u8 191]) w:=by kernel_rfl
theorem afl(w:World):(Instr.index 154 (.agg iT) (.int .i64 7)).run prog w= .ok (.agg #[.int .u8 244,.int .u8 244,.int .u8 7,.int .i64 3,.int .u8 128,.int .u8 143]) w:=by kernel_rfl
theorem aaU(b:Int)(h0:0≤b)(h1:b<256):bits .and .u8 b 31=b % 32:=by have:=bits_mask .u8 8 (by decide) wraps_u8 5 (by omega) b h0 (by omega);simpa using this
theorem aaT(b:Int)(h0:0≤b)(h1:b<256):bits .and .u8 b 15=b % 16:=by have:=bits_mask .u8 8 (by decide) wraps_u8 4 (by omega) b h0 (by omega);simpa using this
theorem and7(b:Int)(h0:0≤b)(h1:b<256):bits .and .u8 b 7=b % 8:=by have:=bits_mask .u8 8 (by decide) wraps_u8 3 (by omega) b h0 (by omega);simpa using this
def Wh (k:Nat) (b:Int):Prop:=b<194∨[(194:Int),224,225,237,238,240,241,244,245].getD k 245≤b
theorem acL(k:Nat)(hk:k<8)(b:Int)(h0:128≤b)(h1:b<256)(hno:Wh k b):
 ∃f l mk mo lo hi q:Int,(∀w,(Instr.index 154 (.agg iT) (.int .i64 k)).run prog w= .ok (.agg #[.int .u8 f,.int .u8 l,.int .u8 mk,.int .i64 mo,.int .u8 lo,.int .u8 hi]) w)∧
  bits .and .u8 b mk=q∧0≤q∧q<256∧(f≤b→b≤l→lead b=some ⟨mo,lo,hi,q⟩)∧(b<f→Wh (k+1) b)∧(l<b→Wh (k+1) b):=by
 have e31:=aaU b (by omega) h1;have e15:=aaT b (by omega) h1;have e7:=and7 b (by omega) h1;unfold Wh at hno ⊢;rcases(show k=0∨k=1∨k=2∨k=3∨k=4∨k=5∨k=6∨k=7 by omega)with rfl|rfl|rfl|rfl|rfl|rfl|rfl|rfl
 ·refine⟨_,_,_,_,_,_,_,afe,e31,by omega,by omega,fun a c=>?_,fun a=>?_,fun a=>?_⟩
  ·unfold lead;repeat' split
   all_goals first|rfl|(exfalso;omega)
  ·simp at hno ⊢;omega
  ·simp at hno ⊢;omega
 ·refine⟨_,_,_,_,_,_,_,aff,e15,by omega,by omega,fun a c=>?_,fun a=>?_,fun a=>?_⟩
  ·unfold lead;repeat' split
   all_goals first|rfl|(exfalso;omega)
  ·simp at hno ⊢;omega
  ·simp at hno ⊢;omega
 ·refine⟨_,_,_,_,_,_,_,afg,e15,by omega,by omega,fun a c=>?_,fun a=>?_,fun a=>?_⟩
  ·unfold lead;repeat' split
   all_goals first|rfl|(exfalso;omega)
  ·simp at hno ⊢;omega
  ·simp at hno ⊢;omega
 ·refine⟨_,_,_,_,_,_,_,afh,e15,by omega,by omega,fun a c=>?_,fun a=>?_,fun a=>?_⟩
  ·unfold lead;repeat' split
   all_goals first|rfl|(exfalso;omega)
  ·simp at hno ⊢;omega
  ·simp at hno ⊢;omega
 ·refine⟨_,_,_,_,_,_,_,afi,e15,by omega,by omega,fun a c=>?_,fun a=>?_,fun a=>?_⟩
  ·unfold lead;repeat' split
   all_goals first|rfl|(exfalso;omega)
  ·simp at hno ⊢;omega
  ·simp at hno ⊢;omega
 ·refine⟨_,_,_,_,_,_,_,afj,e7,by omega,by omega,fun a c=>?_,fun a=>?_,fun a=>?_⟩
  ·unfold lead;repeat' split
   all_goals first|rfl|(exfalso;omega)
  ·simp at hno ⊢;omega
  ·simp at hno ⊢;omega
 ·refine⟨_,_,_,_,_,_,_,afk,e7,by omega,by omega,fun a c=>?_,fun a=>?_,fun a=>?_⟩
  ·unfold lead;repeat' split
   all_goals first|rfl|(exfalso;omega)
  ·simp at hno ⊢;omega
  ·simp at hno ⊢;omega
 ·refine⟨_,_,_,_,_,_,_,afl,e7,by omega,by omega,fun a c=>?_,fun a=>?_,fun a=>?_⟩
  ·unfold lead;repeat' split
   all_goals first|rfl|(exfalso;omega)
  ·simp at hno ⊢;omega
  ·simp at hno ⊢;omega
theorem Ve(b:Int)(h:Wh 8 b):lead b=none:=by
 unfold Wh at h;simp at h;unfold lead
 repeat' split
 all_goals first|rfl|(exfalso;omega)
theorem Od{w wr:World}{v:Value}{s0:RS}(o:Obj)(s:RS)(own:gI wr base v L)(rd:mM wr rb ro s0)(hbel:Below base w wr)(hrb:rb<base)(hb:base≤wr.heap.size):
 gI ((World.iQ wr rb ro s).alloc o) base v L∧mM ((World.iQ wr rb ro s).alloc o) rb ro s∧Kp base rb ro w ((World.iQ wr rb ro s).alloc o):=by
 have hz:(World.iQ wr rb ro s).heap.size=wr.heap.size:=by simp[World.iQ,World.setCell]
 have hbl:Below base (World.iQ wr rb ro s) ((World.iQ wr rb ro s).alloc o):=(dU _ _).alloc (by omega) o;exact⟨xS (gI.iQ own hrb s) o,(yK rd s).kept (hbl.block rb hrb),((Kp.of_below hbel hrb).trans (BV wr s)).trans (Kp.of_below hbl hrb)⟩
def qQ (n:Nat) (c:List Value):List Value:=(List.replicate n c).flatten
theorem rE(n:Nat)(c:List Value):(qQ n c).length=n*c.length:=by simp[qQ]
theorem Ic(n m:Nat)(c:List Value):qQ (n+m) c=qQ n c++qQ m c:=by unfold qQ;rw[←List.replicate_append_replicate,List.flatten_append]
theorem DV{p q:Nat}(h:p≤q)(c:List Value):(qQ q c).take (p*c.length)=qQ p c:=by obtain⟨d,rfl⟩:=Nat.exists_eq_add_of_le h;rw[Ic,List.take_append_of_le_length (by rw[rE];exact bN _)];exact l6 (by rw[rE];exact bN _)
def Apart (u v:Value):Prop:=u.ownBlock=none∨u.ownBlock≠v.ownBlock
def Dm (e size:Nat) (c:List Value) (w w':World):Prop:=∀base u p,w.ownsRow base e size u p (qQ p c)→w'.ownsRow base e size u p (qQ p c)
section
variable {P:Program} (w:World)
theorem rF(base:Nat)(t ty e:TypeId)(i:TypeInfo)(z:Value)(size bytes:Nat)(ht:P.underlying t=some (.slice e))(hi:P.info? e=some i)(hz:i.zero=some z)(hsize:i.size=size)(hby:i.bytes=bytes)(hzs:z.cells.size=size)(v:Value)(n:Nat)(xs:List Value)(hown:w.ownsRow base e size v n xs)(a:Addr)(m c:Nat)(news:List Value)(hl:news.length=m*size)(hnews:∀j u,news[j]? =some u→w.cell? (a.add j)=some u)(h1:∀u∈news,u.oneCell'=true)(hm0:0<m)(h63:n+m≤maxLen)(hbytes:(n+m)*bytes≤140737488355328)(hbase:base≤w.heap.size):
 ∃v' w',(Builtin.append_ #[t,t] ty #[v,.slice (some a) m c]).run P w= .ok v' w'∧w'.ownsRow base e size v' (n+m) (xs++news)∧w.grownBy w' v.ownBlock∧
  (v'.ownBlock=v.ownBlock∨∃k,v'.ownBlock=some k∧w.heap.size≤k)∧
  ∀cs:List Value,cs.length=size→xs=qQ n cs→news=qQ m cs→Dm e size cs w w':=by
 have hsmall:n+m≤9223372036854775807:=by simp only[maxLen]at h63;omega
 have hlen:(xs++news).length=(n+m)*i.size:=by rw[fU,hown.1,hl,hsize,Nat.add_mul]
 have grown:∀(old:Nat),old<n+m→∀(row:Option Nat),
  (w.drew.alloc (.cells (xs.toArray++news.toArray++Builtin.zeroCells z.cells (grownCap w (n+m) old e-(n+m))) e)).ownsRow base e size
    (.slice (some ⟨w.heap.size,0,none⟩) (n+m) (grownCap w (n+m) old e)) (n+m) (xs++news)∧
  w.grownBy (w.drew.alloc (.cells (xs.toArray++news.toArray++Builtin.zeroCells z.cells (grownCap w (n+m) old e-(n+m))) e)) row:=by
  intro old ho row;have hge:=grownCap_ge w (n+m) old e;have hcm:grownCap w (n+m) old e≤maxLen:=grownCap_le_maxLen w (n+m) old e h63;refine⟨⟨by rw[hlen,hsize],.inr ⟨w.heap.size,_,_,rfl,hbase,bV w.drew _,hge,hcm,?_,?_⟩⟩,⟨rfl,rfl,rfl,by simp,fun k hk _=>gK w.drew _ k hk⟩⟩
  ·simp only[Array.size_append,List.size_toArray,size_zeroCells,hzs,hown.1,hl, ←Nat.add_mul]
   congr 1
   omega
  ·simp only[Array.toList_append,f_];rw[←f_, ←hsize, ←hlen];exact uu
 rcases hown.2 with⟨rfl,rfl⟩|⟨g,cap,cur,rfl,hbg,hg,hnc,hcm,hcs,htake⟩
 ·have hx:xs=[]:=zT (by simpa using hown.1);subst hx;have hr:=run_append_nil (P:=P) w t ty e i z ht hi hz a m c news (by rw[hl,hsize]) hnews hm0 (by omega) (by have hb:=hbytes;simp only[lH]at hb;rw[hby];omega);have hgr:=grown 0 (by omega) none;simp only[lH,mP,Array.empty_append]at hgr ⊢;exact⟨_,_,hr,hgr.1,hgr.2,Or.inr ⟨w.heap.size,rfl,bN _⟩,fun _ _ _ _ _ u _ h=>h.kept hgr.2 (by cases hv:u.ownBlock<;>simp)⟩
 ·by_cases hroom:n+m≤cap
  ·have hfit:n*i.size+news.length≤cur.size:=by rw[hl,hcs,hsize, ←Nat.add_mul];exact Nat.mul_le_mul_right _ hroom
   have hr:=run_append_room (P:=P) w t ty e i ht hi g n cap cur hg a m c news (by rw[hl,hsize]) hnews h1 hroom hfit;have hg':=setRow_heap w g cur (cur.toList.take (n*i.size)++news++cur.toList.drop (n*i.size+news.length)).toArray e _ hg;have hgb:w.grownBy (w.setRow g (cur.toList.take (n*i.size)++news++cur.toList.drop (n*i.size+news.length)).toArray) (some g):=
    ⟨rfl,rfl,rfl,by simp,fun k _ hk=>setRow_other w g k _ (fun e=>hk (by simp[e]))⟩
   have hsz':(cur.toList.take (n*i.size)++news++cur.toList.drop (n*i.size+news.length)).length=cur.size:=by simp only[fU,kg,o8,Array.length_toList];omega
   refine⟨_,_,hr,⟨by rw[hlen,hsize],.inr ⟨g,cap,_,rfl,hbg,hg',hroom,hcm,?_,?_⟩⟩,hgb,Or.inl rfl,?_⟩
   ·rw[List.size_toArray,hsz',hcs]
   ·rw[←hsize, ←hlen,hsize,htake];exact uu
   ·intro cs hc hxs hne base' u p hu;by_cases hub:u.ownBlock=some g
    ·refine⟨hu.1,?_⟩;rcases hu.2 with⟨rfl,_⟩|⟨g2,cap2,aeD,rfl,hb2,hg2,hn2,hm2,hcs2,ach⟩
     ·simp[Value.ownBlock]at hub
     ·simp[Value.ownBlock]at hub;subst hub;obtain rfl:cur=aeD:=by have:=hg.symm.trans hg2;simp only[xW,Obj.cells.injEq,and_true]at this;exact this
      refine .inr ⟨g2,cap2,_,rfl,hb2,hg',hn2,hm2,?_,?_⟩
      ·rw[List.size_toArray,hsz',hcs2]
      ·show List.take (p*size) (cur.toList.take (n*i.size)++news++cur.toList.drop (n*i.size+news.length))=qQ p cs;rw[hsize,htake,hxs,hne, ←Ic];have hnl:n*size+(qQ m cs).length=(n+m)*size:=by rw[rE,hc,Nat.add_mul]
       rw[hnl];by_cases hp:p≤n+m
       ·rw[List.take_append_of_le_length (by rw[rE,hc];exact Nat.mul_le_mul_right _ hp), ←hc,DV hp]
       ·have:qQ (n+m) cs=cur.toList.take ((n+m)*size):=by
         rw[←DV (show n+m≤p by omega) cs,hc, ←ach,List.take_take]
         congr 1
         exact rT (Nat.mul_le_mul_right _ (by omega))
        rw[this,List.take_append_drop];exact ach
    ·exact hu.kept hgb (Or.inr hub)
  ·have holds:∀j u,xs[j]? =some u→w.cell? ((⟨g,0,none⟩:Addr).add j)=some u:=hown.cells (g:=g) rfl;have hr:=run_append_grow (P:=P) w t ty e i z ht hi hz ⟨g,0,none⟩ n cap xs (by rw[hown.1,hsize]) holds a m c news (by rw[hl,hsize]) hnews (by omega) (by omega) (growslice_fits (by omega) (by rw[hby];exact hbytes));have hgr:=grown cap (by omega) none;have aeZ:=grown cap (by omega) (Value.ownBlock (.slice (some ⟨g,0,none⟩) n cap));exact⟨_,_,hr,hgr.1,aeZ.2,Or.inr ⟨w.heap.size,rfl,bN _⟩,fun _ _ _ _ _ u _ h=>h.kept hgr.2 (by cases hv:u.ownBlock<;>simp)⟩
theorem jI{ops:Array Oper}{rest:List Oper}{o:Oper}{a:Act}{Q:Exit→Act→World→Prop}(hgd:o.guard=none)(s x:Operand)(t:TypeId)(ho:o.op= .call {callee:=.builtin .append,args:=#[s,x],argTypes:=#[t,t]})(base:Nat)(e:TypeId)(i:TypeInfo)(z:Value)(size bytes:Nat)(ht:P.underlying t=some (.slice e))(hi:P.info? e=some i)(hz:i.zero=some z)(hsize:i.size=size)(hby:i.bytes=bytes)(hzs:z.cells.size=size)(v:Value)(n:Nat)(xs:List Value)(hs:a.eval s=v)(hown:w.ownsRow base e size v n xs)(ad:Addr)(m c:Nat)(news:List Value)(hx:a.eval x= .slice (some ad) m c)(hl:news.length=m*size)(hnews:∀j u,news[j]? =some u→w.cell? (ad.add j)=some u)(h1:∀u∈news,u.oneCell'=true)(hm0:0<m)(h63:n+m≤maxLen)(hbytes:(n+m)*bytes≤140737488355328)(hbase:base≤w.heap.size)(h:∀v' w',w'.ownsRow base e size v' (n+m) (xs++news)→w.grownBy w' v.ownBlock→(v'.ownBlock=v.ownBlock∨∃k,v'.ownBlock=some k∧w.heap.size≤k)→
   (∀cs:List Value,cs.length=size→xs=qQ n cs→news=qQ m cs→Dm e size cs w w')→wpList P ops Q rest (a.put o.dst v') w'):wpList P ops Q (o::rest) a w:=by
 refine oq hgd fun _ hK=>?_;obtain⟨v',w',hr,h2,h3,h4,h5⟩:=rF (P:=P) w base t o.type e i z size bytes ht hi hz hsize hby hzs v n xs hown ad m c news hl hnews h1 hm0 h63 hbytes hbase;unfold Oper.wp execOp;simp only[ho,resolve,invoke,builtin,jV,mK,jU,List.map_toArray,List.map_cons,List.map_nil,hs,hx,hr];exact hK _ _ (h v' w' h2 h3 h4 h5)
end
theorem vK(u:World)(xs:List Value)(t:TypeId):∀j y,xs[j]? =some y→(u.alloc (.cells xs.toArray t)).cell? ((⟨u.heap.size,0,none⟩:Addr).add j)=some y:=by
 intro j y hj;have hadd:(⟨u.heap.size,0,none⟩:Addr).add j=⟨u.heap.size,j,none⟩:=by unfold Addr.add;split<;>simp_all
 rw[hadd,bG _ _ _ _ _ _ (bV u _)];simpa using hj
structure fO where
 b:Bool
 u:Bool
 t:Bool
 f:Int
 k:Int
deriving DecidableEq
structure aI where
 r:Int
 p:fO
 part:Int
deriving DecidableEq
def mO:fO:=⟨false,false,false,0,0⟩
def aD:aI:=⟨32,mO,0⟩
def jQ (c:aI):aI:=⟨0,c.p,2⟩
def aJ (r:List aI) (a:Nat):List aI:=
 if 0<a∧a<r.length∧r.getD a aD=jQ (r.getD (a-1) aD)then(r.set (a-1) aD).set a aD else r
def jv (r:List aI) (a n:Nat):List aI:=r.take a++(List.replicate n aD++r.drop (a+n))
def dP (r:List aI) (a b:Nat):List aI:=jv (aJ (aJ r a) b) a (b-a)
def yC (r:List aI) (a:Nat) (c:Int) (wd:Nat) (p:fO):List aI:=
 if wd=2 then((aJ (aJ r a) (a+wd)).set a ⟨c,p,1⟩).set (a+1) ⟨0,p,2⟩else(aJ (aJ r a) (a+wd)).set a ⟨c,p,0⟩
def jZ (r:List aI) (a:Nat) (q:List aI):List aI:=r.take a++(q++r.drop (a+q.length))
def wF (r:List aI) (a n:Nat):List aI:=
 jv (jZ (aJ (aJ r a) (r.length-n)) (a+n) (((aJ (aJ r a) (r.length-n)).drop a).take (r.length-(a+n)))) a n
def jd (r:List aI) (a n:Nat):List aI:=wF r a (min n (r.length-a))
def wH (r:List aI) (a n:Nat):List aI:=
 jv (jZ (aJ (aJ r a) (a+n)) a ((aJ (aJ r a) (a+n)).drop (a+n))) (r.length-n) n
def jT (r:List aI) (a n:Nat):List aI:=wH r a (min n (r.length-a))
theorem aH(r:List aI)(a:Nat):(aJ r a).length=r.length:=by unfold aJ;split<;>simp
theorem qx(r:List aI)(a n:Nat)(h:a+n≤r.length):(jv r a n).length=r.length:=by simp[jv];omega
theorem kP(r:List aI)(a b:Nat)(h:b≤r.length)(h2:a≤b):(dP r a b).length=r.length:=by rw[dP,qx _ _ _ (by rw[aH,aH];omega),aH,aH]
theorem rD(r:List aI)(a:Nat)(c:Int)(wd:Nat)(p:fO):(yC r a c wd p).length=r.length:=by unfold yC;split<;>simp[aH]
theorem ko(r:List aI)(a:Nat)(q:List aI)(h:a+q.length≤r.length):(jZ r a q).length=r.length:=by simp[jZ];omega
theorem G8(r:List aI)(a n:Nat)(h:a+n≤r.length):(wF r a n).length=r.length:=by
 have hl:(jZ (aJ (aJ r a) (r.length-n)) (a+n) (((aJ (aJ r a) (r.length-n)).drop a).take (r.length-(a+n)))).length=r.length:=by rw[ko _ _ _ (by simp[aH];omega),aH,aH]
 rw[wF,qx _ _ _ (by rw[hl];omega),hl]
theorem lW(r:List aI)(a n:Nat)(h:a≤r.length):(jd r a n).length=r.length:=G8 r a _ (by omega)
theorem Ib(r:List aI)(a n:Nat)(h:a+n≤r.length):(wH r a n).length=r.length:=by
 have hl:(jZ (aJ (aJ r a) (a+n)) a ((aJ (aJ r a) (a+n)).drop (a+n))).length=r.length:=by rw[ko _ _ _ (by simp[aH];omega),aH,aH]
 rw[wH,qx _ _ _ (by rw[hl];omega),hl]
theorem qP(r:List aI)(a n:Nat)(h:a≤r.length):(jT r a n).length=r.length:=Ib r a _ (by omega)
end Go.Proofs.YtheibfffilomcaaGreatDoor
