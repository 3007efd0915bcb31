import Derived.Test.YtheibfffilomcabGreatDoorEvnU
import Derived.Test.YtheibfffilomcabGreatDoorK3
import Derived.Test.YtheibfffilomcabGreatDoorS16U
import Derived.Test.YtheibfffilomcabGreatDoorZnU
set_option linter.all false
namespace Go.Proofs.YtheibfffilomcabGreatDoor
open Go.Ren Go.Conc Go.ConcN Go.RowKit Go.Conc.Lib Go.ConcR.Gen Go.ConcN.Gen Go.Proofs.Tryz
variable {w:World} {aa fb b:Nat} {x:agM}
open Go.ConcR (KK wgBlock WgAt stA smA rd wr Payload Aside2 DC0 ofEvent_cell)
set_option linter.unusedSimpArgs false
set_option linter.unusedVariables false
theorem uu(h:iE w)(τ:Nat→Question→Nat)(d:Nat):iE (on w τ d):=⟨h.sp,h.le,h.st⟩
theorem JJ{sb:Nat}{gs:List Nat}{S:bK}(h:ShAt w sb gs aa S)(τ:Nat→Question→Nat)(d:Nat):ShAt (on w τ d) sb gs aa S:=⟨h.blk,h.len,h.row,h.nodup,h.o⟩
theorem BX{L:Lay}(h:wU w fb L x)(τ:Nat→Question→Nat)(d:Nat):wU (on w τ d) fb L x:=
 ⟨⟨h.rd.c0,h.rd.c1,h.rd.c2,h.rd.c3,h.rd.f⟩,⟨h.ma.len,h.ma.ZN,h.ma.fr⟩,h.pt,⟨h.te.blk,JJ h.te.h0 τ d,JJ h.te.h1 τ d,h.te.tab,h.te.sep⟩,h.no,h.hi⟩
def fD (w:World):Prop:=∀b,b<7→∃o,w.heap[b]? =some o∧(∀ρ,lM ρ o=o)∧∀c t,o≠ .pending c t
def qR (w:World):World:={w with heap:=w.heap.extract 0 7}
theorem gm(h:fD w):(qR w).heap.size=7:=by obtain⟨o,ho,_⟩:=h 6 (by omega);have:=(kP.1 ho).1;simp[qR];omega
theorem l_(hb:b<7):(qR w).heap[b]? =w.heap[b]? :=by
 simp only[qR,Array.getElem?_extract];by_cases h:b<w.heap.size
 ·rw[aS (by omega)];simp
 ·rw[aG (by omega)];simp;omega
theorem qO(h:fD w):HR 7 id (qR w) w:=by
 have hz:=gm h;obtain⟨o6,ho6,_⟩:=h 6 (by omega);have hs:=(kP.1 ho6).1;refine⟨fun a b _ _ e=>e,fun b hb=>by rw[hz]at hb;simp only[id];omega,fun _ _=>rfl,fun b h1 h2=>by rw[hz]at h2;omega,by omega,fun ρ e b hb=>?_,fun b c t hx=>?_,rfl⟩
 ·rw[hz]at hb;rw[l_ hb];obtain⟨o,ho,h1,_⟩:=h b hb;simp[ho,h1]
 ·rcases Nat.lt_or_ge b 7 with hb|hb
  ·rw[l_ hb]at hx;obtain⟨o,ho,_,h2⟩:=h b hb;rw[ho]at hx;cases hx;exact h2 c t rfl
  ·rw[qh (by omega)]at hx;cases hx
theorem Bn(h:fD w):own 7 id (qR w)=fun _=>False:=by
 funext b;apply propext;constructor
 ·rintro⟨i,h1,h2,_⟩;rw[gm h]at h2;omega
 ·exact fun x=>x.elim
theorem PY{a x:Nat}(ha:a<7)(hb:b<7)(hx:7≤x):swap a b x=x:=by unfold swap;rw[aG (by omega),aG (by omega)]
theorem nK(h:fD w):∀τ,uq 7 τ→Go.Ren.Clean τ (qR w):=by
 rintro τ ⟨a,b,hab,rfl⟩;refine⟨fun x o hx=>?_,fun x hx=>PY hab.1 hab.2 (by rw[gm h]at hx;exact hx)⟩;rcases Nat.lt_or_ge x 7 with hb|hb
 ·rw[l_ hb]at hx;obtain⟨o',ho,h1,_⟩:=h x hb;rw[ho]at hx;cases hx;exact h1 _
 ·rw[qh (by rw[gm h];exact hb)]at hx;cases hx
theorem zK(h:iE w):iE (qR w):=h.kept fun k hk=>l_ (by omega)
structure EK (rb cb db ib tb C n j:Nat) (rows aa:Nat) (T:ByteArray) (w:World):Prop where
 r:w.cell? ⟨rb,0,none⟩=some (.int .i64 rows)
 c:w.cell? ⟨cb,0,none⟩=some (.int .i64 aa)
 d:w.cell? ⟨db,0,none⟩=some (.slice (some ⟨C,0,none⟩) n n)
 i:w.cell? ⟨ib,0,none⟩=some (.int .i64 j)
 t:w.cell? ⟨tb,0,none⟩=some (.string T)
 g:fD w
 tabs:iE w
theorem X6{Bs:Nat→Prop}{rb cb db ib tb C n j rows:Nat}{T:ByteArray}(h7:∀b,b<7→Bs b)(hB:Bs rb∧Bs cb∧Bs db∧Bs ib∧Bs tb):Ea Bs (EK rb cb db ib tb C n j rows aa T):=by
 intro w w' hk _ _ h
 exact⟨(cell_of_block (hk _ hB.1) 0).trans h.r,(cell_of_block (hk _ hB.2.1) 0).trans h.c,(cell_of_block (hk _ hB.2.2.1) 0).trans h.d,(cell_of_block (hk _ hB.2.2.2.1) 0).trans h.i,(cell_of_block (hk _ hB.2.2.2.2) 0).trans h.t,
  fun b hb=>by obtain⟨o,ho,x⟩:=h.g b hb;exact⟨o,(hk b (h7 b hb)).trans ho,x⟩,h.tabs.kept fun k hk'=>hk k (h7 k (by omega))⟩
section
variable {main:Bool} {b:Frame} {a:Act} {kk:List Item} {cs:List Frame} {w:World} {ops:Array Oper} {i:Nat} {rest:List Nat} {o:Oper}
theorem jQ{t:TypeId}(ht:t=3∨t=9∨t=24){x:Operand}(ho:ops[i]? =some o)(hw:Region.wanted o (yielded ops a.tmps)=true)(hk:b.kind≠ .early)(hop:o.op= .load t x){ad:Addr}{v:Value}(hx:a.eval x= .pointer (some ad))(hc:w.cell? ad=some v)(hq:(prog.funcs[b.fn]?).any (·.norace)=false):
 stepG prog main (G (b.at a (.inRegion ops (i::rest)::kk)) cs) w= .go (G (b.at (a.put o.dst v) (.inRegion ops rest::kk)) cs) w #[⟨.cell ad,false,false⟩]:=by
 have hr:(execOp a.eval o).run prog w= .ok (.value v) w:=by unfold execOp;simp only[hop,hx];rcases ht with rfl|rfl|rfl<;>simp[go_sem,hc]
 have he:(execOp a.eval o).events prog w #[]= #[⟨.cell ad,false,false⟩]:=by unfold execOp;simp only[hop,hx];rcases ht with rfl|rfl|rfl<;>simp[go_sem,hc]
 rw[stepG_value ho hw hk hr];unfold listed;rw[he,Go.Conc.seen_eq hq (by simp)]
end
open Go.ConcR (KK wgBlock WgAt stA smA rd wr Payload Aside2 DC0 ofEvent_cell)
set_option linter.unusedSimpArgs false
set_option linter.unusedVariables false
structure EP where
 Wg:Nat
 C:Nat
 n:Nat
 B0:Nat
 rb:Nat
 cb:Nat
 db:Nat
 ib:Nat
 tb:Nat
 j:Nat
 rows:Nat
 aa:Nat
 T:ByteArray
 U:ByteArray
def EP.X (p:EP) (b:Nat):Prop:=b=p.ib∨b=p.tb
def EP.Bs (p:EP):Nat→Prop:=fun b=>Jq p.Wg p.C p.B0 b∨p.X b
structure EP.Ok (p:EP):Prop where
 h7:7≤p.B0
 w7:7≤p.Wg
 c7:7≤p.C
 cw:p.C≠p.Wg
 r:Jq p.Wg p.C p.B0 p.rb
 c:Jq p.Wg p.C p.B0 p.cb
 d:Jq p.Wg p.C p.B0 p.db
 hj:p.j<p.n
 n16:p.n≤16
 hr:1≤p.rows∧p.rows≤12
 hc:1≤p.aa∧p.aa≤40
 hT:p.T.size≤281474976710656
 hU:bl p.U=A_ ((agM.fresh p.rows p.aa).feed (bl p.T)).t
abbrev EP.K (p:EP):World→Prop:=EK p.rb p.cb p.db p.ib p.tb p.C p.n p.j p.rows p.aa p.T
def EP.ES (p:EP) (_:Nat→Prop) (g:Goroutine) (w:World):Prop:=
 g.status= .running∧(PayAt p.C p.n w→WgLive 47 p.Wg w→Works prog 47 p.Wg p.C p.n (yA p.C) NJ 0 (p.j+1) (.string p.U) g w)
section
variable {p:EP}
theorem EP.Ok.b7(h:p.Ok)(b:Nat)(hb:b<7):p.Bs b:=.inl ⟨by have:=h.h7;omega,by have:=h.w7;omega,by have:=h.c7;omega⟩
theorem EP.Ok.on(h:p.Ok):Ea p.Bs p.K:=X6 h.b7 ⟨.inl h.r,.inl h.c,.inl h.d,.inr (.inl rfl),.inr (.inr rfl)⟩
theorem EP.Ok.rely(h:p.Ok){S:Nat→Prop}{w w₁:World}(hF:p.K w)(q:RY (fun b=>p.Bs b∨S b) w w₁):p.K w₁:=h.on w w₁ (fun b hb=>q.keep b (.inl hb)) q.size q.os hF
end
def PF (fb:Nat) (x:agM) (V:World):Prop:=∃L,wU V fb L x∧iE V∧2<fb
theorem PF.on{V:World}(h:PF fb x V)(τ:Nat→Question→Nat)(d:Nat):PF fb x (Go.Ren.on V τ d):=let⟨L,h1,h2,h3⟩:=h;⟨L,BX h1 τ d,uu h2 τ d,h3⟩
theorem PF.lt{fb:Nat}{x:agM}{V:World}(h:PF fb x V):fb<V.heap.size:=let⟨_,h1,_⟩:=h;h1.ma.lt
def Sb (p:EP) (v:Value) (V:World):Prop:=∃fb,v= .pointer (some ⟨fb,0,none⟩)∧PF fb (agM.fresh p.rows p.aa) V
def Sd (p:EP) (fb:Nat) (v:Value) (V:World):Prop:=v= .tuple #[]∧PF fb ((agM.fresh p.rows p.aa).feed (bl p.T)) V
def Sg (p:EP) (v:Value) (_:World):Prop:=v= .string p.U
section
variable {p:EP}
theorem TF(h:p.Ok){V:World}(ht:iE V)(h2:2<V.heap.size)(t:Nat→Question→Nat)(d:Nat):Calls prog 15 #[.int .i64 (p.rows:Int),.int .i64 (p.aa:Int)] (on V t d) fun e w=>∃v,e= .returned v∧Sb p v w:=by refine(yC p.rows p.aa (on V t d) h.hr h.hc h2).mono ?_;rintro e w' ⟨fb,L,rfl,h3,h4,_,h6⟩;have hz:(on V t d).heap.size=V.heap.size:=rfl;exact⟨_,rfl,fb,rfl,L,h3,(uu ht t d).kept fun k hk=>h6.block k (by omega),by omega⟩
theorem TG(h:p.Ok){V:World}{fb:Nat}(hf:PF fb (agM.fresh p.rows p.aa) V)(t:Nat→Question→Nat)(d:Nat):Calls prog 16 #[.pointer (some ⟨fb,0,none⟩),.string p.T] (on V t d) fun e w=>∃v,e= .returned v∧Sd p fb v w:=by obtain⟨L,h1,h2,h3⟩:=hf;refine(yP fb L _ p.T (on V t d) (BX h1 t d) (agM.Ok.fresh h.hr h.hc) (uu h2 t d) h3 h.hT).mono ?_;rintro e w' ⟨rfl,v,cs,L',h4⟩;exact⟨_,rfl,rfl,L',h4.f,h4.tb,h3⟩
theorem TH(h:p.Ok){V:World}{fb:Nat}(hf:PF fb ((agM.fresh p.rows p.aa).feed (bl p.T)) V)(t:Nat→Question→Nat)(d:Nat):Calls prog 9 #[.pointer (some ⟨fb,0,none⟩)] (on V t d) fun e w=>∃v,e= .returned v∧Sg p v w:=by obtain⟨L,h1,h2,h3⟩:=hf;have hok:((agM.fresh p.rows p.aa).feed (bl p.T)).Ok:=(agM.Ok.fresh h.hr h.hc).feed _ (nJ p.T);refine(yN fb L _ hok.t (vK p.rows p.aa h.hr h.hc _ (nJ p.T)) (on V t d) (BX h1 t d)).mono ?_;rintro e w' ⟨⟨U,rfl,hU⟩,_⟩;have:U=p.U:=Ci (by rw[hU,h.hU]);subst this;exact⟨_,rfl,rfl⟩
end
end Go.Proofs.YtheibfffilomcabGreatDoor
