import Derived.Test.YtheibfffilomcaaGreatDoorTmaU
import Derived.Test.YtheibfffilomcaaGreatDoorFBaseU
set_option linter.all false
set_option maxRecDepth 100000
set_option maxHeartbeats 4000000
namespace Go.Proofs.YtheibfffilomcaaGreatDoor
open Go.RowKit Go.Proofs.Tryz
variable {w w':World} {tb fb pb r vB r2:Nat} {fed sS:ByteArray} {L:Lay} {a:Act}
theorem XL{ops:Array Oper}{rest:List Oper}{o:Oper}{u:World}{Q:Exit→Act→World→Prop}(hgd:o.guard=none)(ty:TypeId)(x y:Operand)(ho:o.op= .binOp .eql ty x y ty)(arr:Array Value)(hx:a.eval x= .agg arr)(hy:a.eval y= .agg arr)(hg:∀w,(eqGuard .eql ty x y (.agg arr) (.agg arr)).run prog w= .ok () w)(hr:∀w,(binOp .eql ty (.agg arr) (.agg arr)).run prog w= .ok (.bool true) w)(h:wpList prog ops Q rest (a.put o.dst (.bool true)) u):wpList prog ops Q (o::rest) a u:=by
 refine oq hgd fun K hK=>?_;have R:=hK _ _ h;unfold Oper.wp execOp;simp only[ho,hx,hy,jV,hg,hr,jU,mK];exact R
theorem Dk(p:di)(w:World):(binOp .eql 82 (.agg (aB p).toArray) (.agg (aB p).toArray)).run prog w= .ok (.bool true) w:=by rw[LZ];simp
theorem Df(c:aI)(w:World):(binOp .eql 101 (.agg (dw c)) (.agg (dw c))).run prog w= .ok (.bool true) w:=by rw[aeH];simp
theorem za(s:TS)(w:World):(binOp .eql 84 (.agg (xM s).toArray) (.agg (xM s).toArray)).run prog w= .ok (.bool true) w:=by rw[run_eql_struct,acf];rfl
theorem y7(h:w'=w):Sm w w':=h▸Ch.refl _ _
theorem afT(x:akA)(d:DT)(hI:x.t.Inv)(hok:d.Ok)(hx:d.abs=x.t)(k:Int):∃(b:Bool) (n':Int),(∀(fb:Nat) (L:Lay) (w:World),Cm w fb L x→Calls prog 39 #[.pointer (some ⟨fb,0,none⟩),.int .i64 k] w fun e w'=>e= .returned (.tuple #[.bool b,.int .i64 n'])∧Sm w w')∧(∀(tb:Nat) (v0 v1:Value) (fed:ByteArray) (done:Nat) (w:World),bR w tb v0 v1 fed done d→Calls prog 85 #[.pointer (some ⟨tb,0,none⟩),.int .i64 k] w fun e w'=>e= .returned (.tuple #[.bool b,.int .i64 n'])∧Sm w w'):=by
 have hc:d.t.ah=x.t.ah:=by rw[←hx];rfl
 by_cases hk:0≤k∧k<(x.t.ah:Int)
 ·obtain⟨n,rfl⟩:∃n:Nat,k=(n:Int):=⟨k.toNat,by omega⟩;refine⟨x.t.tabs.getD n false,0,fun fb L w h=>(acO fb L x n (by omega) w h hI).mono fun e w' h=>⟨h.1,y7 h.2⟩,fun tb v0 v1 fed done w h=>(abN tb v0 v1 fed done d n (by omega) (by rw[hc];exact hI.c2) hok.tl w h).mono fun e w' h=>⟨by rw[h.1,hx],y7 h.2⟩⟩
 ·exact⟨false,2,fun fb L w h=>(aco fb L x k hk w h hI).mono fun e w' h=>⟨h.1,y7 h.2⟩,fun tb v0 v1 fed done w h=>(aap tb v0 v1 fed done d k (by rw[hc];exact hk) w h).mono fun e w' h=>⟨h.1,y7 h.2⟩⟩
theorem acN(x:akA)(d:DT)(hx:d.abs=x.t)(k:Int):∃(p:di) (n':Int),(∀(fb:Nat) (L:Lay) (w:World),Cm w fb L x→Calls prog 35 #[.pointer (some ⟨fb,0,none⟩),.int .i64 k] w fun e w'=>e= .returned (.tuple #[.agg (aB p).toArray,.int .i64 n'])∧Sm w w')∧(∀(tb:Nat) (v0 v1:Value) (fed:ByteArray) (done:Nat) (w:World),bR w tb v0 v1 fed done d→Calls prog 84 #[.pointer (some ⟨tb,0,none⟩),.int .i64 k] w fun e w'=>e= .returned (.tuple #[.agg (aB p).toArray,.int .i64 n'])∧Sm w w'):=by
 by_cases h0:k=0
 ·subst h0;exact⟨x.t.v0,0,fun fb L w h=>CV fb L x 0 (by omega) w h,fun tb v0 v1 fed done w h=>(abL tb v0 v1 fed done d w h).mono fun e w' h=>⟨by rw[h.1, ←hx];rfl,h.2⟩⟩
 by_cases h1:k=1
 ·subst h1;exact⟨x.t.v1,0,fun fb L w h=>CV fb L x 1 (by omega) w h,fun tb v0 v1 fed done w h=>(abM tb v0 v1 fed done d w h).mono fun e w' h=>⟨by rw[h.1, ←hx];rfl,h.2⟩⟩
 exact⟨aY,2,fun fb L w h=>aaf fb L x k (by omega) w h,fun tb v0 v1 fed done w h=>SF tb v0 v1 fed done d k h0 h1 w h⟩
theorem VY(x:akA)(d:DT)(hI:x.t.Inv)(hok:d.Ok)(hx:d.abs=x.t)(n i k:Int):∃(c:aI) (n':Int),(∀(fb:Nat) (L:Lay) (w:World),Cm w fb L x→Calls prog 38 #[.pointer (some ⟨fb,0,none⟩),.int .i64 n,.int .i64 i,.int .i64 k] w fun e w'=>e= .returned (.tuple #[.agg (dw c),.int .i64 n'])∧Sm w w')∧(∀(tb:Nat) (v0 v1:Value) (fed:ByteArray) (done:Nat) (w:World),bR w tb v0 v1 fed done d→Calls prog 83 #[.pointer (some ⟨tb,0,none⟩),.int .i64 n,.int .i64 i,.int .i64 k] w fun e w'=>e= .returned (.tuple #[.agg (dw c),.int .i64 n'])∧Sm w w'):=by
 have hc:d.t.ah=x.t.ah:=by rw[←hx];rfl
 have hr:d.t.rows=x.t.rows:=by rw[←hx];rfl
 by_cases hn:(0≤n∧n<2)∧(0≤i∧i<(x.t.rows:Int))∧(0≤k∧k<(x.t.ah:Int))
 ·obtain⟨i',rfl⟩:∃i':Nat,i=(i':Int):=⟨i.toNat,by omega⟩;obtain⟨k',rfl⟩:∃k':Nat,k=(k':Int):=⟨k.toNat,by omega⟩;by_cases h0:n=0
  ·subst h0;exact⟨x.t.cellAt 0 i' k',0,fun fb L w h=>XE fb L x 0 i' k' (by omega) (by omega) (by omega) w h hI,fun tb v0 v1 fed done w h=>(acE tb v0 v1 fed done d i' k' w h hok (by omega) (by omega)).mono fun e w' h=>⟨by rw[h.1,hx],h.2⟩⟩
  ·obtain rfl:n=1:=by omega
   exact⟨x.t.cellAt 1 i' k',0,fun fb L w h=>XE fb L x 1 i' k' (by omega) (by omega) (by omega) w h hI,fun tb v0 v1 fed done w h=>(acF tb v0 v1 fed done d i' k' w h hok (by omega) (by omega)).mono fun e w' h=>⟨by rw[h.1,hx],h.2⟩⟩
 ·exact⟨nG,2,fun fb L w h=>aao fb L x n i k hn w h hI,fun tb v0 v1 fed done w h=>aab tb v0 v1 fed done d n i k (by rw[hc,hr];exact hn) w h⟩
theorem KX(pb fb tb:Nat)(L:Lay)(x:akA)(v0 v1:Value)(fed:ByteArray)(done:Nat)(d:DT)(w:World)(hp:VT w pb fb tb)(hf:Cm w fb L x)(ht:bR w tb v0 v1 fed done d)(hI:x.t.Inv)(hok:d.Ok)(hx:d.abs=x.t)(k:Int):Calls prog 43 #[.pointer (some ⟨pb,0,none⟩),.int .i64 k] w fun e w'=>e= .returned (.bool true)∧Sm w w':=by obtain⟨b,n',l1,l2⟩:=afT x d hI hok hx k;have c0:=hp.c0;have HP:Hid _:=hp;have HT:Hid _:=ht;have hpl:=aK hp.blk;have m1:=l1 fb L w hf;have HL2:Hid _:=l2;clear hp hf ht l1 l2;go_enter func43,ntmps43;go_wp2_with fail;refine m1.mono ?_;rintro e w1 ⟨rfl,S1⟩;have c1:w1.cell? ⟨pb,1,none⟩=some (.pointer (some ⟨tb,0,none⟩)):=(dA (S1.block pb hpl id)).trans HP.o.c1;have wu:Hid _:=S1;have m2:=HL2.o tb v0 v1 fed done w1 (HT.o.sm S1);clear m1 S1 c0;go_wp2_with fail;refine m2.mono ?_;rintro e w2 ⟨rfl,S2⟩;have HS2:Hid (Sm w w2):=wu.o.trans S2;clear m2 S2 c1;cases b<;>(go_wp2_with (go_at_call 24;refine(Ma _ _).mono ?_;rintro e w3 ⟨rfl,hw3⟩;have hw4:=hw3.symm;subst hw4))<;>go_ret<;>exact⟨by simp,HS2.o⟩
theorem y8(pb fb tb:Nat)(L:Lay)(x:akA)(v0 v1:Value)(fed:ByteArray)(done:Nat)(d:DT)(w:World)(hp:VT w pb fb tb)(hf:Cm w fb L x)(ht:bR w tb v0 v1 fed done d)(hI:x.t.Inv)(hok:d.Ok)(hx:d.abs=x.t)(k:Int):Calls prog 42 #[.pointer (some ⟨pb,0,none⟩),.int .i64 k] w fun e w'=>e= .returned (.bool true)∧Sm w w':=by obtain⟨p,n',l1,l2⟩:=acN x d hx k;have c0:=hp.c0;have HP:Hid _:=hp;have HT:Hid _:=ht;have hpl:=aK hp.blk;have m1:=l1 fb L w hf;have HL2:Hid _:=l2;clear hp hf ht l1 l2;go_enter func42,ntmps42;go_wp2_with fail;refine m1.mono ?_;rintro e x1 ⟨rfl,q1⟩;go_wp2_with (refine bK _ rfl 82 (.tmp 5) (.tmp 16) rfl x1.heap.size SK (aB p) rfl _ rfl rfl 82 (bV _ _) rfl bH (iM p) ?_);intro y1 g1 k1 z1;have S1:Sm w y1:=BX (q1.alloc _) k1 (by have:=q1.size;omega);have hs1:=aK g1;have c1:y1.cell? ⟨pb,1,none⟩=some (.pointer (some ⟨tb,0,none⟩)):=(dA (S1.block pb hpl id)).trans HP.o.c1;have m2:=HL2.o tb v0 v1 fed done y1 (HT.o.sm S1);have wu:Hid _:=S1;have nZ:Hid _:=g1;clear m1 k1 z1 q1 c0 S1 g1;go_wp2_with fail;refine m2.mono ?_;rintro e x2 ⟨rfl,q2⟩;go_wp2_with (refine bK _ rfl 82 (.tmp 7) (.tmp 25) rfl x2.heap.size SK (aB p) rfl _ rfl rfl 82 (bV _ _) rfl bH (iM p) ?_);intro y2 g2 k2 z2;have S2:Sm w y2:=BX ((wu.o.trans q2).alloc _) k2 (by have:=wu.o.size;have:=q2.size;omega);have g1':y2.heap[x1.heap.size]? =_:=((k2.block _ (by have:=q2.size;simp;omega) (by have:=q2.size;omega)).trans ((gK _ _ _ (by have:=q2.size;omega)).trans (q2.block _ hs1 id))).trans nZ.o;have HS2:Hid _:=S2;clear k2 z2 q2 m2 S2 hs1 c1;go_wp2_with (first|(refine fC rfl 82 (.tmp 5) rfl x1.heap.size rfl 82 _ (0,0) _ g1' underlying82 rfl bH ?_)|(refine fC rfl 82 (.tmp 7) rfl x2.heap.size rfl 82 _ (0,0) _ g2 underlying82 rfl bH ?_)|(refine XL rfl 82 _ _ rfl _ rfl rfl (fun _=>JR 82 (by simp) _ _ _ _ _ _) (Dk p) ?_)|(go_at_call 24;refine(Ma _ _).mono ?_;rintro e w3 ⟨rfl,hw3⟩;have hw4:=hw3.symm;subst hw4));go_ret;exact⟨by simp,HS2.o⟩
theorem zx(pb fb tb:Nat)(L:Lay)(x:akA)(v0 v1:Value)(fed:ByteArray)(done:Nat)(d:DT)(w:World)(hp:VT w pb fb tb)(hf:Cm w fb L x)(ht:bR w tb v0 v1 fed done d)(hI:x.t.Inv)(hok:d.Ok)(hx:d.abs=x.t)(n i k:Int):Calls prog 41 #[.pointer (some ⟨pb,0,none⟩),.int .i64 n,.int .i64 i,.int .i64 k] w fun e w'=>e= .returned (.bool true)∧Sm w w':=by obtain⟨p,n',l1,l2⟩:=VY x d hI hok hx n i k;have c0:=hp.c0;have HP:Hid _:=hp;have HT:Hid _:=ht;have hpl:=aK hp.blk;have m1:=l1 fb L w hf;have HL2:Hid _:=l2;clear hp hf ht l1 l2;go_enter func41,ntmps41;go_wp2_with fail;refine m1.mono ?_;rintro e x1 ⟨rfl,q1⟩;go_wp2_with (refine bK _ rfl 101 (.tmp 9) (.tmp 22) rfl x1.heap.size (cellV nG) (cellV p) rfl _ rfl rfl 101 (bV _ _) rfl g_ (jW p) ?_);intro y1 g1 k1 z1;have S1:Sm w y1:=BX (q1.alloc _) k1 (by have:=q1.size;omega);have hs1:=aK g1;have c1:y1.cell? ⟨pb,1,none⟩=some (.pointer (some ⟨tb,0,none⟩)):=(dA (S1.block pb hpl id)).trans HP.o.c1;have m2:=HL2.o tb v0 v1 fed done y1 (HT.o.sm S1);have wu:Hid _:=S1;have nZ:Hid _:=g1;clear m1 k1 z1 q1 c0 S1 g1;go_wp2_with fail;refine m2.mono ?_;rintro e x2 ⟨rfl,q2⟩;go_wp2_with (refine bK _ rfl 101 (.tmp 11) (.tmp 33) rfl x2.heap.size (cellV nG) (cellV p) rfl _ rfl rfl 101 (bV _ _) rfl g_ (jW p) ?_);intro y2 g2 k2 z2;have S2:Sm w y2:=BX ((wu.o.trans q2).alloc _) k2 (by have:=wu.o.size;have:=q2.size;omega);have g1':y2.heap[x1.heap.size]? =_:=((k2.block _ (by have:=q2.size;simp;omega) (by have:=q2.size;omega)).trans ((gK _ _ _ (by have:=q2.size;omega)).trans (q2.block _ hs1 id))).trans nZ.o;have HS2:Hid _:=S2;clear k2 z2 q2 m2 S2 hs1 c1;go_wp2_with (first|(refine fC rfl 101 (.tmp 9) rfl x1.heap.size rfl 101 _ (0,0) _ g1' underlying101 rfl g_ ?_)|(refine fC rfl 101 (.tmp 11) rfl x2.heap.size rfl 101 _ (0,0) _ g2 underlying101 rfl g_ ?_)|(refine XL rfl 101 _ _ rfl _ rfl rfl (fun _=>JR 101 (by simp) _ _ _ _ _ _) (Df p) ?_)|(go_at_call 24;refine(Ma _ _).mono ?_;rintro e w3 ⟨rfl,hw3⟩;have hw4:=hw3.symm;subst hw4));go_ret;exact⟨by simp,HS2.o⟩
theorem aae{o:Oper}(x y:Operand)(ho:o.op= .binOp .eql 84 x y 84)(s:TS)(hx:a.eval x= .agg (xM s).toArray)(hy:a.eval y= .agg (xM s).toArray)(w:World):(execOp a.eval o).run prog w= .ok (.value (.bool true)) w:=by unfold execOp;simp only[ho,hx,hy,jV,JR 84 (.inr (.inr rfl)),za,jU,mK]
theorem z8(pb fb tb:Nat)(L:Lay)(x:akA)(v0 v1:Value)(fed:ByteArray)(done:Nat)(d:DT)(w:World)(hp:VT w pb fb tb)(hf:Cm w fb L x)(ht:bR w tb v0 v1 fed done d)(hI:x.t.Inv)(hok:d.Ok)(hx:d.abs=x.t):Calls prog 40 #[.pointer (some ⟨pb,0,none⟩)] w fun e w'=>e= .returned (.bool true)∧Sm w w':=by
 have m1:=aaL fb L x w hf;have c0:=hp.c0;have HP:Hid _:=hp;have HT:Hid _:=ht;have hpl:=aK hp.blk;have es:xM x.t=xM d.t:=by rw[←hx];rfl
 have RG:∀u,bR u tb v0 v1 fed done d→u.rangeAt tb 4 (xM x.t):=fun u hu=>by rw[es];exact hu.range 4 _ rfl
 have uF:Hid _:=RG;clear hp hf ht es RG;go_enter func40,ntmps40;go_wp2_with fail;refine m1.mono ?_;rintro e x1 ⟨rfl,q1⟩;go_wp2_with (refine bK _ rfl 84 (.tmp 3) (.tmp 8) rfl x1.heap.size [.int .i64 0,.int .i64 0,.bool false,.bool false,.bool false,.bool false,.int .i64 0,.int .i64 0,.int .i64 0,.int .i64 0,.int .i64 0,.bool false,.int .i64 0,.int .i64 0,.bool false,.bool false,.int .i64 0] (xM x.t) rfl _ rfl rfl 84 (bV _ _) rfl zw (yL x.t) ?_);intro y1 g1 k1 z1;have S1:Sm w y1:=BX (q1.alloc _) k1 (by have:=q1.size;omega);have wu:Hid _:=S1;have HH:({y1 with drawn:=y1.drawn+1}:World).heap[x1.heap.size]? =some (.cells (xM x.t).toArray 84 (0,0))∧({y1 with drawn:=y1.drawn+1}:World).cell? ⟨pb,1,none⟩=some (.pointer (some ⟨tb,0,none⟩))∧({y1 with drawn:=y1.drawn+1}:World).rangeAt tb 4 (xM x.t):=⟨g1,(dA (S1.block pb hpl id)).trans HP.o.c1,uF.o _ (HT.o.sm (S1.drewN 1))⟩;clear m1 k1 z1 q1 c0 S1 g1;go_wp2_with fail;refine dX (S:=fun z=>z.heap[x1.heap.size]? =some (.cells (xM x.t).toArray 84 (0,0))∧z.cell? ⟨pb,1,none⟩=some (.pointer (some ⟨tb,0,none⟩))∧z.rangeAt tb 4 (xM x.t)) aX ?_;refine aj 0 HH ?_ (v:=.agg (xM x.t).toArray) (hy:=(kz (by rfl) 84 (.tmp 3) rfl x1.heap.size 0 rfl (xM x.t) _ (fun z h=>fK h.1) underlying84 rfl zw));refine dH 1 2 3 HH ?_;simp only[ag,af];refine dH 4 5 6 HH ?_;simp only[ag,af];refine aj 7 HH ?_ (v:=.agg (xM x.t).toArray) (hy:=(kz (by rfl) 84 (.tmp 15) rfl tb 4 rfl (xM x.t) _ (fun z h=>h.2.2) underlying84 rfl zw));simp only[ag,af];refine aj 8 HH ?_ (v:=.bool true) (hy:=(Or.inl ⟨by rfl,fun z _=>aae (.tmp 9) (.tmp 16) rfl x.t rfl rfl z⟩));refine aj 9 HH ?_;simp only[ag,af];refine aC ?_;go_wp2_with fail;go_ret;exact⟨rfl,wu.o.drewN 1⟩
theorem Cm.sm{x:akA}(h:Cm w fb L x)(s:Sm w w'):Cm w' fb L x:=h.kept (P:=fun _=>False) s id (fun _ _=>id)
theorem aaQ(pb fb tb:Nat)(L:Lay)(x:akA)(v0 v1:Value)(fed:ByteArray)(done:Nat)(d:DT)(w:World)(hp:VT w pb fb tb)(hf:Cm w fb L x)(ht:bR w tb v0 v1 fed done d)(hI:x.t.Inv)(hok:d.Ok)(hx:d.abs=x.t):Calls prog 21 #[.pointer (some ⟨pb,0,none⟩)] w fun e w'=>e= .returned (.bool true)∧Sm w w':=by
 have hpl:=aK hp.blk;have hr2:d.t.rows≤12:=hok.inv.r2;have hc2:d.t.ah≤40:=hok.inv.c2;have K:∀u,Sm w u→VT u pb fb tb∧Cm u fb L x∧bR u tb v0 v1 fed done d:=fun u hu=>⟨⟨(hu.block pb hpl id).trans hp.blk⟩,hf.sm hu,ht.sm hu⟩;have C1:∀u,Sm w u→u.cell? ⟨pb,1,none⟩=some (.pointer (some ⟨tb,0,none⟩))∧u.cell? ⟨tb,0,none⟩=some (.int .i64 (d.t.rows:Int))∧u.cell? ⟨tb,1,none⟩=some (.int .i64 (d.t.ah:Int)):=fun u hu=>⟨(K u hu).1.c1,(K u hu).2.2.qH,(K u hu).2.2.gX⟩;have QC:∀(n i k:Int) u,Sm w u→Calls prog 41 #[.pointer (some ⟨pb,0,none⟩),.int .i64 n,.int .i64 i,.int .i64 k] u fun e w'=>e= .returned (.bool true)∧Sm w w':=fun n i k u hu=>(zx pb fb tb L x v0 v1 fed done d u (K u hu).1 (K u hu).2.1 (K u hu).2.2 hI hok hx n i k).mono fun e w' h=>⟨h.1,hu.trans h.2⟩;have QS:∀(n:Int) u,Sm w u→Calls prog 42 #[.pointer (some ⟨pb,0,none⟩),.int .i64 n] u fun e w'=>e= .returned (.bool true)∧Sm w w':=fun n u hu=>(y8 pb fb tb L x v0 v1 fed done d u (K u hu).1 (K u hu).2.1 (K u hu).2.2 hI hok hx n).mono fun e w' h=>⟨h.1,hu.trans h.2⟩;have QT:∀(n:Int) u,Sm w u→Calls prog 43 #[.pointer (some ⟨pb,0,none⟩),.int .i64 n] u fun e w'=>e= .returned (.bool true)∧Sm w w':=fun n u hu=>(KX pb fb tb L x v0 v1 fed done d u (K u hu).1 (K u hu).2.1 (K u hu).2.2 hI hok hx n).mono fun e w' h=>⟨h.1,hu.trans h.2⟩;have l0:=z8 pb fb tb L x v0 v1 fed done d w hp hf ht hI hok hx;have Tw:Hid _:=C1;have HQC:Hid _:=QC;have HQS:Hid _:=QS;have HQT:Hid _:=QT;obtain⟨R,hR⟩:∃R:Nat,R=d.t.rows:=⟨_,rfl⟩;obtain⟨C,hC⟩:∃C:Nat,C=d.t.ah:=⟨_,rfl⟩;have Tw:Hid (∀u,Sm w u→u.cell? ⟨pb,1,none⟩=some (.pointer (some ⟨tb,0,none⟩))∧u.cell? ⟨tb,0,none⟩=some (.int .i64 (R:Int))∧u.cell? ⟨tb,1,none⟩=some (.int .i64 (C:Int))):=by rw[hR,hC];exact C1
 rw[←hR]at hr2;rw[←hC]at hc2;clear C1 QC QS QT K hp hf ht hI hok hx hpl hR hC;go_enter func21,ntmps21;go_wp2_with fail;refine l0.mono ?_;rintro e w0 ⟨rfl,S0⟩;clear l0;go_wp2_with fail;go_loopw [3,4] (fun ok v wq=>∃s:Int,-1≤s∧s≤3∧ok= .bool true∧v= .int .i64 s∧Sm w wq) (fun _ v _=>(3-intOf v).toNat)
 case atStart=>exact⟨-1,by omega,by omega,rfl,rfl,S0⟩
 case round=>
  clear S0;obtain⟨s,hs1,hs3,rfl,rfl,S1⟩:=hrel;by_cases hs:s≤2
  ·have vs:IntKind.i64.wrap (s+1)=s+1:=bD _ (by omega);go_wp2_with fail;refine(HQS.o s _ S1).mono ?_;rintro e w1 ⟨rfl,S2⟩;clear S1;go_wp2_with fail;go_loopw [3,5] (fun ok v wq=>∃i:Int,-1≤i∧i≤(R:Int)+1∧ok= .bool true∧v= .int .i64 i∧Sm w wq) (fun _ v _=>((R:Int)+1-intOf v).toNat)
   case atStart=>exact⟨-1,by omega,by omega,rfl,rfl,S2⟩
   case round=>
    clear S2;obtain⟨i,hi1,hi3,rfl,rfl,S3⟩:=hrel;obtain⟨c1,c2,c3⟩:=Tw.o _ S3;by_cases hi:i≤(R:Int)
    ·have vi:IntKind.i64.wrap (i+1)=i+1:=bD _ (by omega);go_wp2_with fail;clear c1 c2 c3;go_loopw [3,6] (fun ok v wq=>∃k:Int,-1≤k∧k≤(C:Int)+1∧ok= .bool true∧v= .int .i64 k∧Sm w wq) (fun _ v _=>((C:Int)+1-intOf v).toNat)
     case atStart=>exact⟨-1,by omega,by omega,rfl,rfl,S3⟩
     case round=>
      clear S3;obtain⟨k,hk1,hk3,rfl,rfl,S4⟩:=hrel;obtain⟨c1,c2,c3⟩:=Tw.o _ S4;by_cases hk:k≤(C:Int)
      ·have vk:IntKind.i64.wrap (k+1)=k+1:=bD _ (by omega);go_wp2_with fail;refine(HQC.o s i k _ S4).mono ?_;rintro e w4 ⟨rfl,S5⟩;clear S4 c1 c2 c3;go_wp2_with fail;go_roundw
       case rel=>exact⟨k+1,by omega,by omega,rfl,rfl,S5⟩
       case measure=>simp[intOf];omega
      ·have ik:decide (k≤(C:Int))=false:=by simp;omega
       go_wp2_with fail;go_roundw
       case rel=>exact⟨i+1,by omega,by omega,rfl,rfl,S4⟩
       case measure=>simp[intOf];omega
    ·have ii:decide (i≤(R:Int))=false:=by simp;omega
     go_wp2_with fail;go_roundw
     case rel=>exact⟨s+1,by omega,by omega,rfl,rfl,S3⟩
     case measure=>simp[intOf];omega
  ·have is:decide (s≤2)=false:=by simp;omega
   go_wp2_with fail;go_loopw [3,7] (fun ok v wq=>∃k:Int,-1≤k∧k≤(C:Int)+1∧ok= .bool true∧v= .int .i64 k∧Sm w wq) (fun _ v _=>((C:Int)+1-intOf v).toNat)
   case atStart=>exact⟨-1,by omega,by omega,rfl,rfl,S1⟩
   case round=>
    clear S1;obtain⟨k,hk1,hk3,rfl,rfl,S4⟩:=hrel;obtain⟨c1,c2,c3⟩:=Tw.o _ S4;by_cases hk:k≤(C:Int)
    ·have vk:IntKind.i64.wrap (k+1)=k+1:=bD _ (by omega);go_wp2_with fail;refine(HQT.o k _ S4).mono ?_;rintro e w4 ⟨rfl,S5⟩;clear S4 c1 c2 c3;go_wp2_with fail;go_roundw
     case rel=>exact⟨k+1,by omega,by omega,rfl,rfl,S5⟩
     case measure=>simp[intOf];omega
    ·have ik:decide (k≤(C:Int))=false:=by simp;omega
     go_wp2_with fail;go_ret;exact⟨rfl,S4⟩
theorem bR.nk{v0 v1 x0 x1:Value}{done adj:Nat}{d d2:DT}(h:bR w tb v0 v1 fed done d)(h2:bR w vB x0 x1 sS adj d2)(c:Ch (· =vB) w w')(hne:tb≠vB):bR w' tb v0 v1 fed done d:=
 have ho:Off w (· =vB):=Off.one h2.blk (by decide) (by decide)
 ⟨(c.block tb h.lt hne).trans h.blk,h.h0.nk c ho,h.h1.nk c ho⟩
structure Pr (w:World) (pb fb tb:Nat) (L:Lay) (r c:Nat) (fed:ByteArray):Prop where
 p:VT w pb fb tb
 f:Cm w fb L ((akA.fresh r c).feed (bl fed))
 d:OT w tb fed r c
theorem VT.sm(h:VT w pb fb tb)(s:Sm w w'):VT w' pb fb tb:=⟨(s.block pb (aK h.blk) id).trans h.blk⟩
theorem OT.sm{c:Nat}(h:OT w tb fed r c)(s:Sm w w'):OT w' tb fed r c:=by obtain⟨x0,x1,h⟩:=h;exact⟨x0,x1,h.sm s⟩
theorem Pr.sm{c:Nat}(h:Pr w pb fb tb L r c fed)(s:Sm w w'):Pr w' pb fb tb L r c fed:=⟨h.p.sm s,h.f.sm s,h.d.sm s⟩
theorem Pr.inv{c:Nat}(_:Pr w pb fb tb L r c fed)(hr:1≤r∧r≤12)(hc:1≤c∧c≤40):((akA.fresh r c).feed (bl fed)).t.Inv:=((akA.Ok.fresh hr hc).feed (bl fed) (sZ fed)).t
theorem Pr.ads{c:Nat}(h:Pr w pb fb tb L r c fed){G6 y9 c2:Nat}{L2:Lay}(h2:Pr w G6 y9 vB L2 r2 c2 sS)(hr:1≤r2∧r2≤12)(hc:1≤c2∧c2≤40)(k:Ch (fun k=>k=y9∨L2.own k) w w')(n1:¬(pb=y9∨L2.own pb))(n2:¬(fb=y9∨L2.own fb))(n3:∀i,L.own i→¬(i=y9∨L2.own i)):Pr w' pb fb tb L r c fed:=by obtain⟨x0,x1,hd⟩:=h.d;exact⟨⟨(k.block pb (aK h.p.blk) n1).trans h.p.blk⟩,h.f.kept k n2 n3,x0,x1,hd.acm h2.f (h2.inv hr hc) k⟩
theorem Pr.adr{c:Nat}(h:Pr w pb fb tb L r c fed){c2:Nat}(h2:OT w vB sS r2 c2)(k:Ch (· =vB) w w')(n1:pb≠vB)(n2:fb≠vB)(n3:∀i,L.own i→i≠vB)(n4:tb≠vB):Pr w' pb fb tb L r c fed:=by obtain⟨x0,x1,hd⟩:=h.d;obtain⟨y0,y1,hd2⟩:=h2;exact⟨⟨(k.block pb (aK h.p.blk) n1).trans h.p.blk⟩,h.f.kept k n2 n3,x0,x1,hd.nk hd2 k n4⟩
theorem Pr.doc{c:Nat}(h:Pr w pb fb tb L r c fed)(hr:1≤r∧r≤12)(hc:1≤c∧c≤40):∃v0 v1 done d,bR w tb v0 v1 fed done d∧DT.Ok d∧d.abs=((akA.fresh r c).feed (bl fed)).t:=by obtain⟨x0,x1,hd⟩:=h.d;have ab0:=Qk (Br r c hr hc).1 r c (Br r c hr hc).2 (bl fed) (sZ fed);exact⟨x0,x1,_,_,hd,ab0.1,ab0.2⟩
theorem Pr.all{c:Nat}(h:Pr w pb fb tb L r c fed)(hr:1≤r∧r≤12)(hc:1≤c∧c≤40):Calls prog 21 #[.pointer (some ⟨pb,0,none⟩)] w fun e w'=>e= .returned (.bool true)∧Sm w w':=by obtain⟨v0,v1,done,d,hd,hok,hx⟩:=h.doc hr hc;exact aaQ pb fb tb L _ v0 v1 fed done d w h.p h.f hd (h.inv hr hc) hok hx
theorem Pr.look{c:Nat}(h:Pr w pb fb tb L r c fed)(hr:1≤r∧r≤12)(hc:1≤c∧c≤40):Calls prog 40 #[.pointer (some ⟨pb,0,none⟩)] w fun e w'=>e= .returned (.bool true)∧Sm w w':=by obtain⟨v0,v1,done,d,hd,hok,hx⟩:=h.doc hr hc;exact z8 pb fb tb L _ v0 v1 fed done d w h.p h.f hd (h.inv hr hc) hok hx
theorem Pr.cell{w:World}{pb fb tb r c:Nat}{L:Lay}{fed:ByteArray}(h:Pr w pb fb tb L r c fed)(hr:1≤r∧r≤12)(hc:1≤c∧c≤40)(n i k:Int):Calls prog 41 #[.pointer (some ⟨pb,0,none⟩),.int .i64 n,.int .i64 i,.int .i64 k] w fun e w'=>e= .returned (.bool true)∧Sm w w':=by obtain⟨v0,v1,done,d,hd,hok,hx⟩:=h.doc hr hc;exact zx pb fb tb L _ v0 v1 fed done d w h.p h.f hd (h.inv hr hc) hok hx n i k
theorem Pr.saved{c:Nat}(h:Pr w pb fb tb L r c fed)(hr:1≤r∧r≤12)(hc:1≤c∧c≤40)(n:Int):Calls prog 42 #[.pointer (some ⟨pb,0,none⟩),.int .i64 n] w fun e w'=>e= .returned (.bool true)∧Sm w w':=by obtain⟨v0,v1,done,d,hd,hok,hx⟩:=h.doc hr hc;exact y8 pb fb tb L _ v0 v1 fed done d w h.p h.f hd (h.inv hr hc) hok hx n
theorem Pr.tab{c:Nat}(h:Pr w pb fb tb L r c fed)(hr:1≤r∧r≤12)(hc:1≤c∧c≤40)(n:Int):Calls prog 43 #[.pointer (some ⟨pb,0,none⟩),.int .i64 n] w fun e w'=>e= .returned (.bool true)∧Sm w w':=by obtain⟨v0,v1,done,d,hd,hok,hx⟩:=h.doc hr hc;exact KX pb fb tb L _ v0 v1 fed done d w h.p h.f hd (h.inv hr hc) hok hx n
def zi:List Value:=[.slice none 0 0,.slice none 0 0,.slice none 0 0,.slice none 0 0,.slice none 0 0,.slice none 0 0,.int .i64 0]
theorem SC{bb:Nat}{t:TypeId}(h:w.heap[bb]? =some (.cells zi.toArray t (0,0)))(j:Nat)(v:Value)(hv:zi[j]? =some v):w.cell? ⟨bb,j,none⟩=some v:=by rw[bG _ _ _ _ _ _ h];simpa using hv
theorem l9(bb:Nat)(t:TypeId)(w:World)(h:w.heap[bb]? =some (.cells zi.toArray t (0,0))):Calls prog 20 #[.pointer (some ⟨bb,0,none⟩)] w fun e w'=>e= .returned (.bool true)∧w'=w:=by
 have c0:=SC h 0 _ rfl;have c2:=SC h 2 _ rfl;have c4:=SC h 4 _ rfl;clear h;go_enter func20,ntmps20;go_wp2_with fail;go_loopw [3] (fun i wr=>i= .int .i64 0∧wr=w) (fun _ _=>0)
 case atStart=>exact⟨rfl,rfl⟩
 case round=>
  obtain⟨rfl,rfl⟩:=hrel;go_wp2_with fail;go_loopw [5] (fun i wq=>i= .int .i64 0∧wq=wr) (fun _ _=>0)
  case atStart=>exact⟨rfl,rfl⟩
  case round=>
   obtain⟨rfl,hw⟩:=hrel;subst hw;go_wp2_with fail;go_loopw [8] (fun i wq=>i= .int .i64 0∧wq=wr) (fun _ _=>0)
   case atStart=>exact⟨rfl,rfl⟩
   case round=>obtain⟨rfl,hw⟩:=hrel;subst hw;go_wp2_with fail;go_ret;exact⟨rfl,rfl⟩
end Go.Proofs.YtheibfffilomcaaGreatDoor
