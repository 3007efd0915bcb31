import Derived.Below
import Derived.WalkKit
import Derived.Laws.BitsLemmas
import Derived.Test.YtheibfffilomcabGreatDoorRows
import Derived.WalkSpells
import Derived.WalkLawsBesides
set_option linter.all false
set_option maxHeartbeats 400000
namespace Go.Proofs.YtheibfffilomcabGreatDoor
open Go.RowKit Go.Proofs.Tryz
variable {base rb ro:Nat} {L:List Int} {v:Value}
theorem _root_.Go.RowKit.Hid.o{p:Prop}(h:Go.RowKit.Hid p):p:=h
open Go.RowKit
abbrev aG:=@if_neg
abbrev eT:=@World.cell?_of_block
abbrev aS:=@if_pos
abbrev gK:=@List.getElem?_eq_getElem
abbrev bJ:=@heap_alloc_new
abbrev dJ:=@cell_of_row
abbrev gL:=@bodyPost_ret
abbrev bE:=@Nat.le_refl
abbrev lQ:=@List.length_append
abbrev fB:=@List.length_cons
abbrev ja:=@List.getElem?_eq_some_iff
abbrev jy:=@Nat.zero_le
abbrev lF:=@results_none
abbrev nE:=@List.set_cons_zero
abbrev Au:=@List.length_replicate
abbrev aH:=@Nat.lt_of_lt_of_le
abbrev qz:=@List.set_cons_succ
abbrev yg:=@ByteArray.size_append
abbrev dH:=@List.length_nil
abbrev sF:=@List.append_assoc
abbrev fu:=@List.mem_of_getElem?
abbrev jb:=@wpList_load_row
abbrev yh:=@List.take_succ_eq_append_getElem
abbrev dI:=@Option.some.inj
abbrev Av:=@List.append_nil
abbrev h_:=@Below.heap_alloc
abbrev iM:=@List.mem_singleton
abbrev dF:=@Below.refl
abbrev wP:=@List.getElem?_append_right
abbrev mE:=@decide_eq_true
abbrev mF:=@decide_eq_false
abbrev kM:=@Result.andThen_ok
abbrev sG:=@List.take_of_length_le
abbrev fA:=@Nat.le_trans
abbrev jJ:=@List.length_take
abbrev qA:=@List.getElem?_take
abbrev wQ:=@Int.toNat_natCast
abbrev DK:=@List.getElem?_append_left
abbrev yj:=@List.drop_eq_nil_of_le
abbrev qB:=@List.length_set
abbrev Jj:=@List.drop_eq_getElem_cons
abbrev di:=@List.mem_cons
abbrev Aw:=@List.nil_append
abbrev kN:=@Sem.run_bind
abbrev oq:=@List.mem_append
abbrev nG:=@of_decide_eq_true
abbrev sH:=@List.getElem?_map
abbrev eU:=@List.not_mem_nil
abbrev wR:=@List.length_drop
abbrev iH:=@Nat.le_of_lt
abbrev kP:=@Array.getElem?_eq_some_iff
abbrev lG:=@Nat.zero_add
abbrev qC:=@List.getElem?_drop
abbrev qg:=@Sem.run_pure
abbrev Jk:=@List.eq_nil_of_length_eq_zero
abbrev M3:=@List.drop_of_length_le
abbrev ou:=@frozen_of_row
abbrev wS:=@heap_setCell_same
abbrev M4:=@List.getElem?_eq_none
abbrev sI:=@wpList_plain
abbrev yl:=@Nat.min_eq_left
abbrev qh:=@Array.getElem?_eq_none
abbrev M5:=@World.ownsRow.alloc
abbrev M6:=@List.eq_of_mem_replicate
abbrev Ay:=@List.take_left
abbrev Jl:=@World.ownsRow.kept
abbrev Jm:=@List.getElem?_replicate
abbrev Jn:=@World.ownsRow.lt
abbrev ym:=@Nat.min_eq_right
abbrev sJ:=@Option.some.injEq
abbrev Az:=@List.getElem?_set
abbrev M7:=@List.set_append_right
abbrev DL:=@List.mem_of_mem_take
abbrev wT:=@Nat.add_zero
abbrev Jo:=@List.replicate_succ
abbrev DN:=@World.frozen?_of_block
abbrev DR:=@Option.bind_some
abbrev Jp:=@List.getElem_mem
abbrev yn:=@Below.heap_setCell
abbrev AA:=@List.getElem?_toArray
abbrev AB:=@Bool.and_eq_true_iff
abbrev AJ:=@World.cell?_setCell_same
abbrev eX:=@or_false
abbrev DT:=@World.block_lt_of_cell?
abbrev R4:=@List.getElem?_cons_succ
theorem acO(a c:Nat)(hc:c<64):(a*64) ||| c=a*64+c:=by have:=Nat.two_pow_add_eq_or_of_lt (i:=6) (b:=c) (by omega) a;rw[Nat.mul_comm];exact this.symm
theorem AZ(a c:Int)(h0:0≤a)(h1:a<1099511627776)(h2:0≤c)(h3:c<64):bits .or .i64 (a*64) c=a*64+c:=by obtain⟨x,rfl⟩:=Int.eq_ofNat_of_zero_le h0;obtain⟨y,rfl⟩:=Int.eq_ofNat_of_zero_le h2;have:=(bits_nat .i64 63 (by decide) (fun n h0 h1=>by rw[IntKind.wrap_i64];omega) (x*64) y (by omega) (by omega)).2;rw[acO x y (by omega)]at this;simpa using this
structure RS where
 m:Int
 lo:Int
 hi:Int
 val:Int
def RS.zero:RS:=⟨0,0,0,0⟩
def lead (b:Int):Option RS:=
 if b<194 then none else if b≤223 then some ⟨1,128,191,b % 32⟩else if b≤224 then some ⟨2,160,191,b % 16⟩else if b≤236 then some ⟨2,128,191,b % 16⟩
 else if b≤237 then some ⟨2,128,159,b % 16⟩else if b≤239 then some ⟨2,128,191,b % 16⟩else if b≤240 then some ⟨3,144,191,b % 8⟩
 else if b≤243 then some ⟨3,128,191,b % 8⟩else if b≤244 then some ⟨3,128,143,b % 8⟩else none
def RS.sw (s:RS) (b:Int):RS × List Int:=
 if b<128 then(s,[b])else match lead b with
  |some r=>(r,[])
  |none=>(s,[65533])
def RS.fin (s:RS):RS × List Int:=if s.m=0 then(s,[])else(.zero,[65533])
def RS.join (s:RS) (b:Int):RS × List Int:=
 if s.m=1 then(.zero,[s.val*64+b % 64])else(⟨s.m-1,128,191,s.val*64+b % 64⟩,[])
def RS.take (s:RS) (b:Int):RS × List Int:=
 if s.m=0 then s.sw b else if b<s.lo∨s.hi<b then((s.fin.1.sw b).1,s.fin.2++(s.fin.1.sw b).2)else s.join b
structure RS.ok (s:RS):Prop where
 m0:0≤s.m
 m3:s.m≤3
 v0:0≤s.val
 v1:s.m=1→s.val<32768
 v2:s.m=2→s.val<512
 v3:s.m=3→s.val<8
theorem RS.ok.zero:RS.zero.ok:=⟨by decide,by decide,by decide,fun h=>by simp[RS.zero]at h,fun h=>by simp[RS.zero]at h,fun h=>by simp[RS.zero]at h⟩
theorem Rh{b:Int}{r:RS}(h:lead b=some r):r.ok:=by
 unfold lead at h
 repeat' split at h
 all_goals first|(cases h;done)|(cases h;constructor<;>dsimp only<;>omega)
theorem RS.ok.sw{s:RS}(h:s.ok)(b:Int):(s.sw b).1.ok:=by
 unfold RS.sw;split
 ·exact h
 ·split
  ·exact Rh ‹_›
  ·exact h
theorem RS.ok.fin{s:RS}(h:s.ok):s.fin.1.ok:=by
 unfold RS.fin;split
 ·exact h
 ·exact RS.ok.zero
theorem RS.ok.join{s:RS}(h:s.ok)(b:Int)(hm:s.m≠0):(s.join b).1.ok:=by
 unfold RS.join;obtain⟨a1,a2,a3,a4,a5,a6⟩:=h;split
 ·exact RS.ok.zero
 ·constructor<;>dsimp only<;>omega
theorem RS.ok.take{s:RS}(h:s.ok)(b:Int):(s.take b).1.ok:=by
 unfold RS.take;split
 ·exact h.sw b
 ·split
  ·exact h.fin.sw b
  ·exact h.join b ‹_›
theorem JM(s:RS)(b:Int):(s.sw b).2.length≤1:=by
 unfold RS.sw;split
 ·simp
 ·split<;>simp
theorem take_len(s:RS)(b:Int):(s.take b).2.length≤2:=by
 unfold RS.take;have h1:=JM s b;have h2:=JM s.fin.1 b;split
 ·omega
 ·split
  ·rw[lQ];have:s.fin.2.length≤1:=by unfold RS.fin;split<;>simp
   omega
  ·unfold RS.join;split<;>simp
def RS.run (s:RS):List Int→RS × List Int
 | []=>(s,[])
 |b::r=>((RS.run (s.take b).1 r).1,(s.take b).2++(RS.run (s.take b).1 r).2)
theorem RS.ok.run{s:RS}(h:s.ok)(l:List Int):(s.run l).1.ok:=by
 induction l generalizing s with
 |nil=>exact h
 |cons b l ih=>exact ih (h.take b)
def decode (l:List Int):List Int:=(RS.zero.run l).2++(RS.zero.run l).1.fin.2
theorem info3:(prog.info? 3).map (fun i=>(i.zero,i.size,i.bytes))=some (some (.int .i64 0),1,8):=by kernel_rfl
structure jc (w:World) (rb ro:Nat) (s:RS):Prop where
 c0:w.cell? ⟨rb,ro,none⟩=some (.int .i64 s.m)
 c1:w.cell? ⟨rb,ro+1,none⟩=some (.int .u8 s.lo)
 c2:w.cell? ⟨rb,ro+2,none⟩=some (.int .u8 s.hi)
 c3:w.cell? ⟨rb,ro+3,none⟩=some (.int .i64 s.val)
 f:∀j,j<4→w.frozen? ⟨rb,ro+j,none⟩=false
def eu (w:World) (base:Nat) (v:Value) (L:List Int):Prop:=w.ownsRow base 3 1 v L.length (L.map (Value.int .i64))
structure Kp (base rb ro:Nat) (w w':World):Prop where
 os:w'.os=w.os
 tape:w'.tape=w.tape
 output:w'.output=w.output
 size:w.heap.size≤w'.heap.size
 block:∀k,k<base→k≠rb→w'.heap[k]? =w.heap[k]?
 cell:∀o,(o<ro∨ro+4≤o)→w'.cell? ⟨rb,o,none⟩=w.cell? ⟨rb,o,none⟩
 frozen:∀o,w'.frozen? ⟨rb,o,none⟩=w.frozen? ⟨rb,o,none⟩
theorem Kp.refl(base rb ro:Nat)(w:World):Kp base rb ro w w:=⟨rfl,rfl,rfl,bE _,fun _ _ _=>rfl,fun _ _=>rfl,fun _=>rfl⟩
theorem Kp.trans{a b c:World}(h:Kp base rb ro a b)(k:Kp base rb ro b c):Kp base rb ro a c:=
 ⟨k.os.trans h.os,k.tape.trans h.tape,k.output.trans h.output,fA h.size k.size,fun i hi hn=>(k.block i hi hn).trans (h.block i hi hn),fun o ho=>(k.cell o ho).trans (h.cell o ho),fun o=>(k.frozen o).trans (h.frozen o)⟩
theorem Kp.of_below{w w':World}(h:Below base w w')(hrb:rb<base):Kp base rb ro w w':=
 ⟨h.os,h.tape,h.output,h.size,fun k hk _=>h.block k hk,fun _ _=>h.cell hrb,fun _=>h.frozen hrb⟩
theorem Kp.below{B:Nat}{w w':World}(h:Kp base rb ro w w')(hB:B≤rb)(hb:rb≤base):Below B w w':=
 ⟨h.os,h.tape,h.output,h.size,fun k hk=>h.block k (by omega) (by omega)⟩
theorem bA(w:World)(rb a b:Nat)(x:Value)(h:a≠b):(w.setCell ⟨rb,a,none⟩ x).cell? ⟨rb,b,none⟩=w.cell? ⟨rb,b,none⟩:=by exact World.cell?_setCell_other _ _ _ _ (by simp)
theorem Kp.set{w:World}(j:Nat)(x:Value)(hj:ro≤j∧j<ro+4):Kp base rb ro w (w.setCell ⟨rb,j,none⟩ x):=by refine⟨rfl,rfl,rfl,by simp[World.setCell],fun k _ hn=>yn _ _ _ _ hn,fun o ho=>bA _ _ _ _ _ (by omega),fun o=>?_⟩;simp
def World.eP (w:World) (rb ro:Nat) (s:RS):World:=
 (((w.setCell ⟨rb,ro,none⟩ (.int .i64 s.m)).setCell ⟨rb,ro+1,none⟩ (.int .u8 s.lo)).setCell ⟨rb,ro+2,none⟩ (.int .u8 s.hi)).setCell ⟨rb,ro+3,none⟩ (.int .i64 s.val)
theorem zC(w:World)(s:RS):Kp base rb ro w (World.eP w rb ro s):=
 (((Kp.set ro _ (by omega)).trans (Kp.set (ro+1) _ (by omega))).trans (Kp.set (ro+2) _ (by omega))).trans (Kp.set (ro+3) _ (by omega))
theorem u_{w:World}{s0:RS}(h:jc w rb ro s0)(s:RS):jc (World.eP w rb ro s) rb ro s:=by
 have k:=zC (base:=0) (rb:=rb) (ro:=ro) w s;unfold World.eP;refine⟨?_,?_,?_,?_,fun j hj=>?_⟩
 ·rw[bA _ _ _ _ _ (by omega),bA _ _ _ _ _ (by omega),bA _ _ _ _ _ (by omega)];exact AJ _ _ _ h.c0
 ·rw[bA _ _ _ _ _ (by omega),bA _ _ _ _ _ (by omega)];exact AJ _ _ _ ((bA _ _ _ _ _ (by omega)).trans h.c1)
 ·rw[bA _ _ _ _ _ (by omega)];exact AJ _ _ _ ((bA _ _ _ _ _ (by omega)).trans ((bA _ _ _ _ _ (by omega)).trans h.c2))
 ·exact AJ _ _ _ ((bA _ _ _ _ _ (by omega)).trans ((bA _ _ _ _ _ (by omega)).trans ((bA _ _ _ _ _ (by omega)).trans h.c3)))
 ·exact(k.frozen _).trans (h.f j hj)
theorem jc.kept{rb ro:Nat}{w w':World}{s:RS}(h:jc w rb ro s)(hb:w'.heap[rb]? =w.heap[rb]?):jc w' rb ro s:=
 ⟨(eT hb).trans h.c0,(eT hb).trans h.c1,(eT hb).trans h.c2,(eT hb).trans h.c3,fun j hj=>(DN hb).trans (h.f j hj)⟩
theorem eu.eP{w:World}(h:eu w base v L)(hrb:rb<base)(s:RS):eu (World.eP w rb ro s) base v L:=by unfold World.eP eu;exact ownsRow_setCell_below (ownsRow_setCell_below (ownsRow_setCell_below (ownsRow_setCell_below h hrb _) hrb _) hrb _) hrb _
theorem eu.one{w:World}{v':Value}{x:Int}(h:w.ownsRow base 3 1 v' (L.length+1) (L.map (Value.int .i64)++[.int .i64 x])):eu w base v' (L++[x]):=by unfold eu;simpa using h
def eZ:Array Value:=#[.int .u8 194,.int .u8 223,.int .u8 31,.int .i64 1,.int .u8 128,.int .u8 191,.int .u8 224,.int .u8 224,.int .u8 15,.int .i64 2,.int .u8 160,.int .u8 191,
 .int .u8 225,.int .u8 236,.int .u8 15,.int .i64 2,.int .u8 128,.int .u8 191,.int .u8 237,.int .u8 237,.int .u8 15,.int .i64 2,.int .u8 128,.int .u8 159,
 .int .u8 238,.int .u8 239,.int .u8 15,.int .i64 2,.int .u8 128,.int .u8 191,.int .u8 240,.int .u8 240,.int .u8 7,.int .i64 3,.int .u8 144,.int .u8 191,
 .int .u8 241,.int .u8 243,.int .u8 7,.int .i64 3,.int .u8 128,.int .u8 191,.int .u8 244,.int .u8 244,.int .u8 7,.int .i64 3,.int .u8 128,.int .u8 143]
def jK (w:World):Prop:=∃t fr,w.heap[0]? =some (.cells eZ t fr)
theorem jK.kept{w w':World}(h:jK w)(hb:w'.heap[0]? =w.heap[0]?):jK w':=by obtain⟨t,fr,h⟩:=h;exact⟨t,fr,hb.trans h⟩
theorem eu.below{w w':World}(h:eu w base v L)(hb:Below w.heap.size w w'):eu w' base v L:=
 Jl (row:=none) h ⟨hb.os,hb.tape,hb.output,hb.size,fun k hk _=>hb.block k hk⟩ (by cases hv:v.ownBlock<;>simp)
theorem Oh(rb ro:Nat)(s:RS)(v:Value)(w:World)(rd:jc w rb ro s)(hm:(s.m==0)=true):
 Calls prog 73 #[.pointer (some ⟨rb,ro,none⟩),v] w fun e w'=>e= .returned v∧w'=w:=by
 have c0:=rd.c0;go_enter func73,ntmps73;go_wp2_with fail;go_ret;exact⟨rfl,rfl⟩
theorem Rc(rb ro:Nat)(s:RS)(b:Int)(v:Value)(w:World)(rd:jc w rb ro s)(hm:(s.m==1)=false)(hm0:0≤s.m)(hm3:s.m≤3)(hv:0≤s.val)(hv':s.val<32768)(hb0:0≤b)(hb1:b<256):
 Calls prog 74 #[.pointer (some ⟨rb,ro,none⟩),v,.int .u8 b] w fun e w'=>e= .returned v∧w'=World.eP w rb ro ⟨s.m-1,128,191,s.val*64+b % 64⟩:=by
 have YX:=AZ s.val (b % 64) hv (by omega) (by omega) (by omega);have c0:=rd.c0;have c1:=rd.c1;have c2:=rd.c2;have c3:=rd.c3;have f0:=rd.f 0 (by omega);have f1:=rd.f 1 (by omega);have f2:=rd.f 2 (by omega);have f3:=rd.f 3 (by omega);simp only[wT]at f0;go_enter func74,ntmps74;go_wp2_with fail;go_ret;exact⟨rfl,rfl⟩
theorem UZ:(prog.info? 190).map (·.size)=some eZ.size:=by kernel_rfl
theorem acs(w:World):(Instr.index 190 (.agg eZ) (.int .i64 0)).run prog w= .ok (.agg #[.int .u8 194,.int .u8 223,.int .u8 31,.int .i64 1,.int .u8 128,.int .u8 191]) w:=by kernel_rfl
theorem acu(w:World):(Instr.index 190 (.agg eZ) (.int .i64 1)).run prog w= .ok (.agg #[.int .u8 224,.int .u8 224,.int .u8 15,.int .i64 2,.int .u8 160,.int .u8 191]) w:=by kernel_rfl
theorem acv(w:World):(Instr.index 190 (.agg eZ) (.int .i64 2)).run prog w= .ok (.agg #[.int .u8 225,.int .u8 236,.int .u8 15,.int .i64 2,.int .u8 128,.int .u8 191]) w:=by kernel_rfl
theorem acw(w:World):(Instr.index 190 (.agg eZ) (.int .i64 3)).run prog w= .ok (.agg #[.int .u8 237,.int .u8 237,.int .u8 15,.int .i64 2,.int .u8 128,.int .u8 159]) w:=by kernel_rfl
theorem acy(w:World):(Instr.index 190 (.agg eZ) (.int .i64 4)).run prog w= .ok (.agg #[.int .u8 238,.int .u8 239,.int .u8 15,.int .i64 2,.int .u8 128,.int .u8 191]) w:=by kernel_rfl
theorem acz(w:World):(Instr.index 190 (.agg eZ) (.int .i64 5)).run prog w= .ok (.agg #[.int .u8 240,.int .u8 240,.int .u8 7,.int .i64 3,.int .u8 144,.int .u8 191]) w:=by kernel_rfl
theorem acA(w:World):(Instr.index 190 (.agg eZ) (.int .i64 6)).run prog w= .ok (.agg #[.int .u8 241,.int .u8 243,.int .u8 7,.int .i64 3,.int .u8 128,.int .u8 191]) w:=by kernel_rfl
theorem acB(w:World):(Instr.index 190 (.agg eZ) (.int .i64 7)).run prog w= .ok (.agg #[.int .u8 244,.int .u8 244,.int .u8 7,.int .i64 3,.int .u8 128,.int .u8 143]) w:=by kernel_rfl
theorem Xy(b:Int)(h0:0≤b)(h1:b<256):bits .and .u8 b 31=b % 32:=by have:=bits_mask .u8 8 (by decide) wraps_u8 5 (by omega) b h0 (by omega);simpa using this
theorem Xx(b:Int)(h0:0≤b)(h1:b<256):bits .and .u8 b 15=b % 16:=by have:=bits_mask .u8 8 (by decide) wraps_u8 4 (by omega) b h0 (by omega);simpa using this
theorem and7(b:Int)(h0:0≤b)(h1:b<256):bits .and .u8 b 7=b % 8:=by have:=bits_mask .u8 8 (by decide) wraps_u8 3 (by omega) b h0 (by omega);simpa using this
def SB (k:Nat) (b:Int):Prop:=b<194∨[(194:Int),224,225,237,238,240,241,244,245].getD k 245≤b
theorem ZR(k:Nat)(hk:k<8)(b:Int)(h0:128≤b)(h1:b<256)(hno:SB k b):
 ∃f l mk mo lo hi q:Int,(∀w,(Instr.index 190 (.agg eZ) (.int .i64 k)).run prog w= .ok (.agg #[.int .u8 f,.int .u8 l,.int .u8 mk,.int .i64 mo,.int .u8 lo,.int .u8 hi]) w)∧
  bits .and .u8 b mk=q∧0≤q∧q<256∧(f≤b→b≤l→lead b=some ⟨mo,lo,hi,q⟩)∧(b<f→SB (k+1) b)∧(l<b→SB (k+1) b):=by
 have e31:=Xy b (by omega) h1;have e15:=Xx b (by omega) h1;have e7:=and7 b (by omega) h1;unfold SB at hno ⊢;rcases(show k=0∨k=1∨k=2∨k=3∨k=4∨k=5∨k=6∨k=7 by omega)with rfl|rfl|rfl|rfl|rfl|rfl|rfl|rfl
 ·refine⟨_,_,_,_,_,_,_,acs,e31,by omega,by omega,fun a c=>?_,fun a=>?_,fun a=>?_⟩
  ·unfold lead;repeat' split
   all_goals first|rfl|(exfalso;omega)
  ·simp at hno ⊢;omega
  ·simp at hno ⊢;omega
 ·refine⟨_,_,_,_,_,_,_,acu,e15,by omega,by omega,fun a c=>?_,fun a=>?_,fun a=>?_⟩
  ·unfold lead;repeat' split
   all_goals first|rfl|(exfalso;omega)
  ·simp at hno ⊢;omega
  ·simp at hno ⊢;omega
 ·refine⟨_,_,_,_,_,_,_,acv,e15,by omega,by omega,fun a c=>?_,fun a=>?_,fun a=>?_⟩
  ·unfold lead;repeat' split
   all_goals first|rfl|(exfalso;omega)
  ·simp at hno ⊢;omega
  ·simp at hno ⊢;omega
 ·refine⟨_,_,_,_,_,_,_,acw,e15,by omega,by omega,fun a c=>?_,fun a=>?_,fun a=>?_⟩
  ·unfold lead;repeat' split
   all_goals first|rfl|(exfalso;omega)
  ·simp at hno ⊢;omega
  ·simp at hno ⊢;omega
 ·refine⟨_,_,_,_,_,_,_,acy,e15,by omega,by omega,fun a c=>?_,fun a=>?_,fun a=>?_⟩
  ·unfold lead;repeat' split
   all_goals first|rfl|(exfalso;omega)
  ·simp at hno ⊢;omega
  ·simp at hno ⊢;omega
 ·refine⟨_,_,_,_,_,_,_,acz,e7,by omega,by omega,fun a c=>?_,fun a=>?_,fun a=>?_⟩
  ·unfold lead;repeat' split
   all_goals first|rfl|(exfalso;omega)
  ·simp at hno ⊢;omega
  ·simp at hno ⊢;omega
 ·refine⟨_,_,_,_,_,_,_,acA,e7,by omega,by omega,fun a c=>?_,fun a=>?_,fun a=>?_⟩
  ·unfold lead;repeat' split
   all_goals first|rfl|(exfalso;omega)
  ·simp at hno ⊢;omega
  ·simp at hno ⊢;omega
 ·refine⟨_,_,_,_,_,_,_,acB,e7,by omega,by omega,fun a c=>?_,fun a=>?_,fun a=>?_⟩
  ·unfold lead;repeat' split
   all_goals first|rfl|(exfalso;omega)
  ·simp at hno ⊢;omega
  ·simp at hno ⊢;omega
theorem Rp(b:Int)(h:SB 8 b):lead b=none:=by
 unfold SB at h;simp at h;unfold lead
 repeat' split
 all_goals first|rfl|(exfalso;omega)
theorem Me{w wr:World}{s0:RS}(o:Obj)(s:RS)(own:eu wr base v L)(rd:jc wr rb ro s0)(hbel:Below base w wr)(hrb:rb<base)(hb:base≤wr.heap.size):
 eu ((World.eP wr rb ro s).alloc o) base v L∧jc ((World.eP wr rb ro s).alloc o) rb ro s∧Kp base rb ro w ((World.eP wr rb ro s).alloc o):=by
 have hz:(World.eP wr rb ro s).heap.size=wr.heap.size:=by simp[World.eP,World.setCell]
 have hbl:Below base (World.eP wr rb ro s) ((World.eP wr rb ro s).alloc o):=(dF _ _).alloc (by omega) o;exact⟨M5 (eu.eP own hrb s) o,(u_ rd s).kept (hbl.block rb hrb),((Kp.of_below hbel hrb).trans (zC wr s)).trans (Kp.of_below hbl hrb)⟩
theorem jK.kp{w w':World}(h:jK w)(k:Kp base rb ro w w')(h1:0<base)(hr:0≠rb):jK w':=h.kept (k.block 0 h1 hr)
def nZ (n:Nat) (c:List Value):List Value:=(List.replicate n c).flatten
theorem nM(n:Nat)(c:List Value):(nZ n c).length=n*c.length:=by simp[nZ]
theorem Fb(n m:Nat)(c:List Value):nZ (n+m) c=nZ n c++nZ m c:=by unfold nZ;rw[←List.replicate_append_replicate,List.flatten_append]
theorem Bo{p q:Nat}(h:p≤q)(c:List Value):(nZ q c).take (p*c.length)=nZ p c:=by obtain⟨d,rfl⟩:=Nat.exists_eq_add_of_le h;rw[Fb,List.take_append_of_le_length (by rw[nM];exact bE _)];exact sG (by rw[nM];exact bE _)
def Apart (u v:Value):Prop:=u.ownBlock=none∨u.ownBlock≠v.ownBlock
def AX (e size:Nat) (c:List Value) (w w':World):Prop:=∀base u p,w.ownsRow base e size u p (nZ p c)→w'.ownsRow base e size u p (nZ p c)
section
variable {P:Program} (w:World)
theorem nO(base:Nat)(t ty e:TypeId)(i:TypeInfo)(z:Value)(size bytes:Nat)(ht:P.underlying t=some (.slice e))(hi:P.info? e=some i)(hz:i.zero=some z)(hsize:i.size=size)(hby:i.bytes=bytes)(hzs:z.cells.size=size)(v:Value)(n:Nat)(xs:List Value)(hown:w.ownsRow base e size v n xs)(a:Addr)(m c:Nat)(news:List Value)(hl:news.length=m*size)(hnews:∀j u,news[j]? =some u→w.cell? (a.add j)=some u)(h1:∀u∈news,u.oneCell'=true)(hm0:0<m)(h63:n+m≤maxLen)(hbytes:(n+m)*bytes≤140737488355328)(hbase:base≤w.heap.size):
 ∃v' w',(Builtin.append_ #[t,t] ty #[v,.slice (some a) m c]).run P w= .ok v' w'∧w'.ownsRow base e size v' (n+m) (xs++news)∧w.grownBy w' v.ownBlock∧
  (v'.ownBlock=v.ownBlock∨∃k,v'.ownBlock=some k∧w.heap.size≤k)∧
  ∀cs:List Value,cs.length=size→xs=nZ n cs→news=nZ m cs→AX e size cs w w':=by
 have hsmall:n+m≤9223372036854775807:=by simp only[maxLen]at h63;omega
 have hlen:(xs++news).length=(n+m)*i.size:=by rw[lQ,hown.1,hl,hsize,Nat.add_mul]
 have grown:∀(old:Nat),old<n+m→∀(row:Option Nat),
  (w.drew.alloc (.cells (xs.toArray++news.toArray++Builtin.zeroCells z.cells (grownCap w (n+m) old e-(n+m))) e)).ownsRow base e size
    (.slice (some ⟨w.heap.size,0,none⟩) (n+m) (grownCap w (n+m) old e)) (n+m) (xs++news)∧
  w.grownBy (w.drew.alloc (.cells (xs.toArray++news.toArray++Builtin.zeroCells z.cells (grownCap w (n+m) old e-(n+m))) e)) row:=by
  intro old ho row;have hge:=grownCap_ge w (n+m) old e;have hcm:grownCap w (n+m) old e≤maxLen:=grownCap_le_maxLen w (n+m) old e h63;refine⟨⟨by rw[hlen,hsize],.inr ⟨w.heap.size,_,_,rfl,hbase,bJ w.drew _,hge,hcm,?_,?_⟩⟩,⟨rfl,rfl,rfl,by simp,fun k hk _=>h_ w.drew _ k hk⟩⟩
  ·simp only[Array.size_append,List.size_toArray,size_zeroCells,hzs,hown.1,hl, ←Nat.add_mul]
   congr 1
   omega
  ·simp only[Array.toList_append,sF];rw[←sF, ←hsize, ←hlen];exact Ay
 rcases hown.2 with⟨rfl,rfl⟩|⟨g,cap,cur,rfl,hbg,hg,hnc,hcm,hcs,htake⟩
 ·have hx:xs=[]:=Jk (by simpa using hown.1);subst hx;have hr:=run_append_nil (P:=P) w t ty e i z ht hi hz a m c news (by rw[hl,hsize]) hnews hm0 (by omega) (by have hb:=hbytes;simp only[lG]at hb;rw[hby];omega);have hgr:=grown 0 (by omega) none;simp only[lG,Aw,Array.empty_append]at hgr ⊢;exact⟨_,_,hr,hgr.1,hgr.2,Or.inr ⟨w.heap.size,rfl,bE _⟩,fun _ _ _ _ _ u _ h=>h.kept hgr.2 (by cases hv:u.ownBlock<;>simp)⟩
 ·by_cases hroom:n+m≤cap
  ·have hfit:n*i.size+news.length≤cur.size:=by rw[hl,hcs,hsize, ←Nat.add_mul];exact Nat.mul_le_mul_right _ hroom
   have hr:=run_append_room (P:=P) w t ty e i ht hi g n cap cur hg a m c news (by rw[hl,hsize]) hnews h1 hroom hfit;have hg':=setRow_heap w g cur (cur.toList.take (n*i.size)++news++cur.toList.drop (n*i.size+news.length)).toArray e _ hg;have hgb:w.grownBy (w.setRow g (cur.toList.take (n*i.size)++news++cur.toList.drop (n*i.size+news.length)).toArray) (some g):=
    ⟨rfl,rfl,rfl,by simp,fun k _ hk=>setRow_other w g k _ (fun e=>hk (by simp[e]))⟩
   have hsz':(cur.toList.take (n*i.size)++news++cur.toList.drop (n*i.size+news.length)).length=cur.size:=by simp only[lQ,jJ,wR,Array.length_toList];omega
   refine⟨_,_,hr,⟨by rw[hlen,hsize],.inr ⟨g,cap,_,rfl,hbg,hg',hroom,hcm,?_,?_⟩⟩,hgb,Or.inl rfl,?_⟩
   ·rw[List.size_toArray,hsz',hcs]
   ·rw[←hsize, ←hlen,hsize,htake];exact Ay
   ·intro cs hc hxs hne base' u p hu;by_cases hub:u.ownBlock=some g
    ·refine⟨hu.1,?_⟩;rcases hu.2 with⟨rfl,_⟩|⟨g2,cap2,abj,rfl,hb2,hg2,hn2,hm2,hcs2,Y9⟩
     ·simp[Value.ownBlock]at hub
     ·simp[Value.ownBlock]at hub;subst hub;obtain rfl:cur=abj:=by have:=hg.symm.trans hg2;simp only[sJ,Obj.cells.injEq,and_true]at this;exact this
      refine .inr ⟨g2,cap2,_,rfl,hb2,hg',hn2,hm2,?_,?_⟩
      ·rw[List.size_toArray,hsz',hcs2]
      ·show List.take (p*size) (cur.toList.take (n*i.size)++news++cur.toList.drop (n*i.size+news.length))=nZ p cs;rw[hsize,htake,hxs,hne, ←Fb];have hnl:n*size+(nZ m cs).length=(n+m)*size:=by rw[nM,hc,Nat.add_mul]
       rw[hnl];by_cases hp:p≤n+m
       ·rw[List.take_append_of_le_length (by rw[nM,hc];exact Nat.mul_le_mul_right _ hp), ←hc,Bo hp]
       ·have:nZ (n+m) cs=cur.toList.take ((n+m)*size):=by
         rw[←Bo (show n+m≤p by omega) cs,hc, ←Y9,List.take_take]
         congr 1
         exact yl (Nat.mul_le_mul_right _ (by omega))
        rw[this,List.take_append_drop];exact Y9
    ·exact hu.kept hgb (Or.inr hub)
  ·have holds:∀j u,xs[j]? =some u→w.cell? ((⟨g,0,none⟩:Addr).add j)=some u:=hown.cells (g:=g) rfl;have hr:=run_append_grow (P:=P) w t ty e i z ht hi hz ⟨g,0,none⟩ n cap xs (by rw[hown.1,hsize]) holds a m c news (by rw[hl,hsize]) hnews (by omega) (by omega) (growslice_fits (by omega) (by rw[hby];exact hbytes));have hgr:=grown cap (by omega) none;have acj:=grown cap (by omega) (Value.ownBlock (.slice (some ⟨g,0,none⟩) n cap));exact⟨_,_,hr,hgr.1,acj.2,Or.inr ⟨w.heap.size,rfl,bE _⟩,fun _ _ _ _ _ u _ h=>h.kept hgr.2 (by cases hv:u.ownBlock<;>simp)⟩
theorem rM{ops:Array Oper}{rest:List Oper}{o:Oper}{a:Act}{Q:Exit→Act→World→Prop}(hgd:o.guard=none)(s x:Operand)(t:TypeId)(ho:o.op= .call {callee:=.builtin .append,args:=#[s,x],argTypes:=#[t,t]})(base:Nat)(e:TypeId)(i:TypeInfo)(z:Value)(size bytes:Nat)(ht:P.underlying t=some (.slice e))(hi:P.info? e=some i)(hz:i.zero=some z)(hsize:i.size=size)(hby:i.bytes=bytes)(hzs:z.cells.size=size)(v:Value)(n:Nat)(xs:List Value)(hs:a.eval s=v)(hown:w.ownsRow base e size v n xs)(ad:Addr)(m c:Nat)(news:List Value)(hx:a.eval x= .slice (some ad) m c)(hl:news.length=m*size)(hnews:∀j u,news[j]? =some u→w.cell? (ad.add j)=some u)(h1:∀u∈news,u.oneCell'=true)(hm0:0<m)(h63:n+m≤maxLen)(hbytes:(n+m)*bytes≤140737488355328)(hbase:base≤w.heap.size)(h:∀v' w',w'.ownsRow base e size v' (n+m) (xs++news)→w.grownBy w' v.ownBlock→(v'.ownBlock=v.ownBlock∨∃k,v'.ownBlock=some k∧w.heap.size≤k)→
   (∀cs:List Value,cs.length=size→xs=nZ n cs→news=nZ m cs→AX e size cs w w')→wpList P ops Q rest (a.put o.dst v') w'):wpList P ops Q (o::rest) a w:=by
 refine sI hgd fun _ hK=>?_;obtain⟨v',w',hr,h2,h3,h4,h5⟩:=nO (P:=P) w base t o.type e i z size bytes ht hi hz hsize hby hzs v n xs hown ad m c news hl hnews h1 hm0 h63 hbytes hbase;unfold Oper.wp execOp;simp only[ho,resolve,invoke,builtin,kN,qg,kM,List.map_toArray,List.map_cons,List.map_nil,hs,hx,hr];exact hK _ _ (h v' w' h2 h3 h4 h5)
end
structure fO where
 b:Bool
 u:Bool
 t:Bool
 f:Int
 k:Int
deriving DecidableEq
structure aC where
 r:Int
 p:fO
 part:Int
deriving DecidableEq
def Aa:fO:=⟨false,false,false,0,0⟩
def aQ:aC:=⟨32,Aa,0⟩
def lN (c:aC):aC:=⟨0,c.p,2⟩
def ay (r:List aC) (a:Nat):List aC:=
 if 0<a∧a<r.length∧r.getD a aQ=lN (r.getD (a-1) aQ)then(r.set (a-1) aQ).set a aQ else r
def gQ (r:List aC) (a n:Nat):List aC:=r.take a++(List.replicate n aQ++r.drop (a+n))
def fK (r:List aC) (a b:Nat):List aC:=gQ (ay (ay r a) b) a (b-a)
def tL (r:List aC) (a:Nat) (c:Int) (wd:Nat) (p:fO):List aC:=
 if wd=2 then((ay (ay r a) (a+wd)).set a ⟨c,p,1⟩).set (a+1) ⟨0,p,2⟩else(ay (ay r a) (a+wd)).set a ⟨c,p,0⟩
def gY (r:List aC) (a:Nat) (q:List aC):List aC:=r.take a++(q++r.drop (a+q.length))
def uF (r:List aC) (a n:Nat):List aC:=
 gQ (gY (ay (ay r a) (r.length-n)) (a+n) (((ay (ay r a) (r.length-n)).drop a).take (r.length-(a+n)))) a n
def fQ (r:List aC) (a n:Nat):List aC:=uF r a (min n (r.length-a))
def uQ (r:List aC) (a n:Nat):List aC:=
 gQ (gY (ay (ay r a) (a+n)) a ((ay (ay r a) (a+n)).drop (a+n))) (r.length-n) n
def iI (r:List aC) (a n:Nat):List aC:=uQ r a (min n (r.length-a))
theorem ax(r:List aC)(a:Nat):(ay r a).length=r.length:=by unfold ay;split<;>simp
theorem lZ(r:List aC)(a n:Nat)(h:a+n≤r.length):(gQ r a n).length=r.length:=by simp[gQ];omega
theorem iA(r:List aC)(a b:Nat)(h:b≤r.length)(h2:a≤b):(fK r a b).length=r.length:=by rw[fK,lZ _ _ _ (by rw[ax,ax];omega),ax,ax]
theorem qW(r:List aC)(a:Nat)(c:Int)(wd:Nat)(p:fO):(tL r a c wd p).length=r.length:=by unfold tL;split<;>simp[ax]
theorem gP(r:List aC)(a:Nat)(q:List aC)(h:a+q.length≤r.length):(gY r a q).length=r.length:=by simp[gY];omega
theorem EF(r:List aC)(a n:Nat)(h:a+n≤r.length):(uF r a n).length=r.length:=by
 have hl:(gY (ay (ay r a) (r.length-n)) (a+n) (((ay (ay r a) (r.length-n)).drop a).take (r.length-(a+n)))).length=r.length:=by rw[gP _ _ _ (by simp[ax];omega),ax,ax]
 rw[uF,lZ _ _ _ (by rw[hl];omega),hl]
theorem mQ(r:List aC)(a n:Nat)(h:a≤r.length):(fQ r a n).length=r.length:=EF r a _ (by omega)
theorem Fa(r:List aC)(a n:Nat)(h:a+n≤r.length):(uQ r a n).length=r.length:=by
 have hl:(gY (ay (ay r a) (a+n)) a ((ay (ay r a) (a+n)).drop (a+n))).length=r.length:=by rw[gP _ _ _ (by simp[ax];omega),ax,ax]
 rw[uQ,lZ _ _ _ (by rw[hl];omega),hl]
theorem qX(r:List aC)(a n:Nat)(h:a≤r.length):(iI r a n).length=r.length:=Fa r a _ (by omega)
def z16:List Int:=List.replicate 16 0
theorem fq:z16.length=16:=rfl
def bG:List Int:=[0,0,0,0,0]++z16
structure MS where
 md:Int
 mr:Int
 ct:Int
 ps:List Int
def MS.l (s:MS):List Int:=[s.md,s.mr,s.ct]++s.ps
def MS.zero:MS:=⟨0,0,0,z16⟩
def iF (c:Int):Bool:=decide (64≤c∧c≤126)
def lJ (c:Int):Bool:=c==63||c==62||c==61||c==60
def jZ (c:Int):Bool:=c==93||c==80||c==88||c==94||c==95
def MS.gD (s:MS):MS:=⟨s.md,s.mr,min (s.ct+1) 17,if s.ct<16 then s.ps.set s.ct.toNat (-1)else s.ps⟩
def MS.jk (s:MS) (d:Int):MS:=
 if 16<s.ct then s else⟨s.md,s.mr,s.ct,s.ps.set (s.ct-1).toNat (min (max (s.ps.getD (s.ct-1).toNat 0) 0*10+d) 65535)⟩
def MS.nP (s:MS) (f:Int):List Int:=[4,0,s.mr,f,min s.ct 16]++s.ps
def MS.cO (s:MS) (c:Int):MS × List Int × Bool:=
 if 48≤c∧c≤57 then(s.jk (c-48),bG,false)else if c=59 then(s.gD,bG,false)else if iF c=true then(.zero,s.nP c,true)else(⟨4,0,0,z16⟩,bG,false)
def MS.dz (s:MS) (c:Int):MS × List Int × Bool:=
 if c=91 then(MS.gD ⟨2,0,0,z16⟩,bG,false)else if jZ c=true then(⟨5,0,0,z16⟩,bG,false)else if c≤47 then(⟨s.md,c,s.ct,s.ps⟩,bG,false)
 else if c≤126 then(.zero,[3,0,s.mr,c,0]++z16,true)else(.zero,bG,false)
def MS.bT (s:MS) (c:Int):MS × List Int × Bool:=
 if s.md=0 then(s,[1,c,0,0,0]++z16,true)else if s.md=1 then s.dz c
 else if s.md=2 then(if lJ c=true then(⟨3,c,s.ct,s.ps⟩,bG,false)else MS.cO ⟨3,s.mr,s.ct,s.ps⟩ c)else if s.md=3 then s.cO c
 else if s.md=4 then(if iF c=true then(.zero,bG,false)else(s,bG,false))else(s,bG,false)
def MS.skip (s:MS) (c:Int):MS:=if c=7∨c=156 then .zero else s
def MS.take (s:MS) (c:Int):MS × List Int × Bool:=
 if c=24∨c=26 then(.zero,bG,false)else if c=27 then(⟨1,0,0,z16⟩,bG,false)else if s.md=5 then(s.skip c,bG,false)
 else if c<32 then(s,[2,c,0,0,0]++z16,true)else if c≠127 then s.bT c else(s,bG,false)
structure MS.ok (s:MS):Prop where
 len:s.ps.length=16
 m0:0≤s.md
 m5:s.md≤5
 c0:0≤s.ct
 c1:s.ct≤17
 c2:s.md=2∨s.md=3→1≤s.ct
 r0: -10000000≤s.mr
 r1:s.mr≤10000000
 p:∀x∈s.ps,-1≤x∧x≤65535
theorem Dx:∀x∈z16,-1≤x∧x≤65535:=by intro x hx;have:=M6 hx;omega
theorem J4{l:List Int}(h:∀x∈l,-1≤x∧x≤65535)(j:Nat): -1≤l.getD j 0∧l.getD j 0≤65535:=by
 by_cases hj:j<l.length
 ·have:l.getD j 0∈l:=by simp[List.getD,gK hj]
  exact h _ this
 ·simp[List.getD,M4 (by omega:l.length≤j)]
theorem IE{l:List Int}(h:∀x∈l,-1≤x∧x≤65535)(j:Nat)(v:Int)(h0: -1≤v)(h1:v≤65535):∀x∈l.set j v,-1≤x∧x≤65535:=by
 intro x hx;rcases List.mem_or_eq_of_mem_set hx with hx|rfl
 ·exact h x hx
 ·exact⟨h0,h1⟩
theorem MS.ok.zero:MS.zero.ok:=⟨rfl,by decide,by decide,by decide,by decide,by decide,by decide,by decide,Dx⟩
theorem MS.ok.mode{m:Int}(h0:0≤m)(h1:m≤5)(h2:m≠2)(h3:m≠3):MS.ok ⟨m,0,0,z16⟩:=⟨rfl,h0,h1,by dsimp only;omega,by dsimp only;omega,fun h=>by dsimp only at h;omega,by dsimp only;omega,by dsimp only;omega,Dx⟩
theorem MS.ok.gD{s:MS}(h:s.ok):s.gD.ok:=by
 obtain⟨a1,a2,a3,a4,a5,a6,a7,a8,a9⟩:=h;refine⟨?_,a2,a3,?_,?_,fun _=>?_,a7,a8,?_⟩
 ·unfold MS.gD;dsimp only;split
  ·simp[a1]
  ·exact a1
 ·unfold MS.gD;dsimp only;omega
 ·unfold MS.gD;dsimp only;omega
 ·unfold MS.gD;dsimp only;omega
 ·unfold MS.gD;dsimp only;split
  ·exact IE a9 _ _ (by omega) (by omega)
  ·exact a9
theorem MS.ok.jk{s:MS}(h:s.ok){d:Int}(h0:0≤d)(h1:d≤9):(s.jk d).ok:=by
 obtain⟨a1,a2,a3,a4,a5,a6,a7,a8,a9⟩:=h;unfold MS.jk;split
 ·exact⟨a1,a2,a3,a4,a5,a6,a7,a8,a9⟩
 ·refine⟨by simp[a1],a2,a3,a4,a5,a6,a7,a8,?_⟩;dsimp only;have:=J4 a9 (s.ct-1).toNat;exact IE a9 _ _ (by omega) (by omega)
theorem MS.ok.cO{s:MS}(h:s.ok)(c:Int):(s.cO c).1.ok:=by
 unfold MS.cO;by_cases a:48≤c∧c≤57
 ·rw[aS a];exact h.jk (by omega) (by omega)
 ·rw[aG a];by_cases b:c=59
  ·rw[aS b];exact h.gD
  ·rw[aG b];by_cases d:iF c=true
   ·rw[aS d];exact MS.ok.zero
   ·rw[aG d];exact MS.ok.mode (by omega) (by omega) (by omega) (by omega)
theorem MS.ok.dz{s:MS}(h:s.ok){c:Int}(hc0:0≤c):(s.dz c).1.ok:=by
 unfold MS.dz;by_cases a1:c=91
 ·rw[aS a1];refine⟨rfl,by decide,by decide,by decide,by decide,by decide,by decide,by decide,?_⟩;unfold MS.gD;dsimp only;rw[aS (by decide)];exact IE Dx _ _ (by omega) (by omega)
 ·rw[aG a1];by_cases a2:jZ c=true
  ·rw[aS a2];exact MS.ok.mode (by omega) (by omega) (by omega) (by omega)
  ·rw[aG a2];by_cases a3:c≤47
   ·rw[aS a3];obtain⟨b1,b2,b3,b4,b5,b6,b7,b8,b9⟩:=h;exact⟨b1,b2,b3,b4,b5,b6,by dsimp only;omega,by dsimp only;omega,b9⟩
   ·rw[aG a3];by_cases a4:c≤126
    ·rw[aS a4];exact MS.ok.zero
    ·rw[aG a4];exact MS.ok.zero
theorem MS.ok.third{s:MS}(h:s.ok)(hm:s.md=2){r:Int}(h0: -10000000≤r)(h1:r≤10000000):MS.ok ⟨3,r,s.ct,s.ps⟩:=by obtain⟨b1,b2,b3,b4,b5,b6,b7,b8,b9⟩:=h;exact⟨b1,by dsimp only;omega,by dsimp only;omega,b4,b5,fun _=>b6 (Or.inl hm),h0,h1,b9⟩
theorem MS.ok.bT{s:MS}(h:s.ok){c:Int}(hc0:0≤c)(hc1:c≤10000000):(s.bT c).1.ok:=by
 unfold MS.bT;by_cases a0:s.md=0
 ·rw[aS a0];exact h
 ·rw[aG a0];by_cases a1:s.md=1
  ·rw[aS a1];exact h.dz hc0
  ·rw[aG a1];by_cases a2:s.md=2
   ·rw[aS a2];by_cases b:lJ c=true
    ·rw[aS b];exact h.third a2 (by omega) (by omega)
    ·rw[aG b];exact(h.third a2 h.r0 h.r1).cO c
   ·rw[aG a2];by_cases a3:s.md=3
    ·rw[aS a3];exact h.cO c
    ·rw[aG a3];by_cases a4:s.md=4
     ·rw[aS a4];by_cases b:iF c=true
      ·rw[aS b];exact MS.ok.zero
      ·rw[aG b];exact h
     ·rw[aG a4];exact h
theorem MS.ok.skip{s:MS}(h:s.ok)(c:Int):(s.skip c).ok:=by
 unfold MS.skip;split
 ·exact MS.ok.zero
 ·exact h
theorem MS.ok.take{s:MS}(h:s.ok){c:Int}(hc0:0≤c)(hc1:c≤10000000):(s.take c).1.ok:=by
 unfold MS.take;by_cases a0:c=24∨c=26
 ·rw[aS a0];exact MS.ok.zero
 ·rw[aG a0];by_cases a1:c=27
  ·rw[aS a1];exact MS.ok.mode (by omega) (by omega) (by omega) (by omega)
  ·rw[aG a1];by_cases a2:s.md=5
   ·rw[aS a2];exact h.skip c
   ·rw[aG a2];by_cases a3:c<32
    ·rw[aS a3];exact h
    ·rw[aG a3];by_cases a4:c≠127
     ·rw[aS a4];exact h.bT hc0 hc1
     ·rw[aG a4];exact h
end Go.Proofs.YtheibfffilomcabGreatDoor
