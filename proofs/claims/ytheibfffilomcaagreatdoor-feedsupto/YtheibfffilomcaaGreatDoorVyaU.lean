import Derived.Test.YtheibfffilomcaaGreatDoorVxB
import Derived.Test.YtheibfffilomcaaGreatDoorTmaU
import Derived.Test.YtheibfffilomcaaGreatDoorVybU
set_option linter.all false
set_option maxRecDepth 100000
set_option maxHeartbeats 4000000
namespace Go.Proofs.YtheibfffilomcaaGreatDoor
open Go.RowKit Go.Proofs.Tryz
theorem CF(tb:Nat)(v0 v1:Value)(fed:ByteArray)(done:Nat)(d:DT)(ev:List Int)(ct:Nat)(w:World)(ht:bR w tb v0 v1 fed done d)(hok:d.Ok)(hl:ev.length=21)(hct:ev.getD 4 0=(ct:Int))(hc16:ct≤16)(hb:∀i,(ev.drop 5).getD i 0≤70000):Calls prog 64 #[.pointer (some ⟨tb,0,none⟩),.agg (aA ev)] w fun e w'=>e= .returned (.tuple #[])∧∃v0' v1',bR w' tb v0' v1' fed done (d.sequence (ev.getD 3 0) (ev.drop 5) ct)∧Ch (· =tb) w w':=Qo tb v0 v1 fed done d ev ct w ht hok hl hct hc16 hb _ rfl
theorem wZ(on:Bool)(l:List Int)(n:Int):∀d:DT,d.privates on (l++[n])=(d.privates on l).jr n on:=by
 induction l with
 |nil=>intro d;rfl
 |cons x l ih=>intro d;exact ih _
theorem nP{tb:Nat}{v0 v1:Value}{fed:ByteArray}{done:Nat}{d:DT}{w:World}(ev:List Int)(ht:bR w tb v0 v1 fed done d)(hl:ev.length=21):tb<w.heap.size∧Hid (∀x:World,x.heap[w.heap.size]? =some (.cells (aA ev) 46 (0,0))→∀i,i<21→x.cell? ⟨w.heap.size,i,none⟩=some (.int .i64 (ev.getD i 0)))∧Hid ((w.alloc (.cells (aA ev) 46)).heap[w.heap.size]? =some (.cells (aA ev) 46 (0,0)))∧Hid (Sm w (w.alloc (.cells (aA ev) 46)))∧Hid (bR (w.alloc (.cells (aA ev) 46)) tb v0 v1 fed done d)∧(w.alloc (.cells (aA ev) 46)).cell? ⟨w.heap.size,0,none⟩=some (.int .i64 (ev.getD 0 0))∧(w.alloc (.cells (aA ev) 46)).cell? ⟨w.heap.size,1,none⟩=some (.int .i64 (ev.getD 1 0))∧(w.alloc (.cells (aA ev) 46)).cell? ⟨w.heap.size,2,none⟩=some (.int .i64 (ev.getD 2 0))∧(w.alloc (.cells (aA ev) 46)).cell? ⟨w.heap.size,3,none⟩=some (.int .i64 (ev.getD 3 0))∧(w.alloc (.cells (aA ev) 46)).cell? ⟨w.heap.size,4,none⟩=some (.int .i64 (ev.getD 4 0)):=by have EC:∀(x:World),x.heap[w.heap.size]? =some (.cells (aA ev) 46 (0,0))→∀i,i<21→x.cell? ⟨w.heap.size,i,none⟩=some (.int .i64 (ev.getD i 0)):=fun x hx i hi=>(bG x _ _ _ _ _ hx).trans (by have h9:=jo ev i (by omega);rw[aA];simpa using h9);have S0:Sm w (w.alloc (.cells (aA ev) 46)):=(Ch.refl _ _).alloc _;have G0:=EC _ (bV w _);exact⟨ht.lt,EC,bV _ _,S0,ht.sm S0,G0 0 (by omega),G0 1 (by omega),G0 2 (by omega),G0 3 (by omega),G0 4 (by omega)⟩
theorem XI(tb:Nat)(v0 v1:Value)(fed:ByteArray)(done:Nat)(d:DT)(ev:List Int)(w:World)(ht:bR w tb v0 v1 fed done d)(hok:d.Ok)(hg:jC ev)(hk:ev.getD 0 0=2):Calls prog 30 #[.pointer (some ⟨tb,0,none⟩),.agg (aA ev)] w fun e w'=>e= .returned (.tuple #[])∧∃v0' v1',bR w' tb v0' v1' fed done (d.control (ev.getD 1 0))∧Ch (· =tb) w w':=by
 have hl:=hg.len;obtain⟨Bw,Db,nK,oG,HT0,c0,c1,c2,c3,c4⟩:=nP ev ht hl;have iV:Hid d.Ok:=hok;clear ht;rw[hk]at c0;obtain⟨A1,hA1⟩:∃x,ev.getD 1 0=x:=⟨_,rfl⟩;rw[hA1]at c1 ⊢;go_enter func30,ntmps30;go_wp2_with fail;refine(EH tb v0 v1 fed done d _ _ HT0.o iV.o).mono ?_;rintro e w1 ⟨rfl,x0,x1,t1,k1⟩;have HT1:Hid _:=t1;have kR:Hid (Ch (· =tb) w w1):=(Sm.ch oG.o).trans k1;clear t1 k1;go_wp2_with fail
 first|go_end0|((try simp only[Exit.inBlock,Exit.then]);refine bX (dz rfl _ _ _) rfl ?_)
 first|exact⟨rfl,x0,x1,HT1.o,kR.o⟩|exact⟨rfl,⟨x0,x1,HT1.o⟩,kR.o⟩
theorem XJ(tb:Nat)(v0 v1:Value)(fed:ByteArray)(done:Nat)(d:DT)(ev:List Int)(w:World)(ht:bR w tb v0 v1 fed done d)(hok:d.Ok)(hg:jC ev)(hk:ev.getD 0 0=3):Calls prog 30 #[.pointer (some ⟨tb,0,none⟩),.agg (aA ev)] w fun e w'=>e= .returned (.tuple #[])∧∃v0' v1',bR w' tb v0' v1' fed done (d.escape (ev.getD 2 0) (ev.getD 3 0))∧Ch (· =tb) w w':=by
 have hl:=hg.len;obtain⟨Bw,Db,nK,oG,HT0,c0,c1,c2,c3,c4⟩:=nP ev ht hl;have iV:Hid d.Ok:=hok;clear ht;rw[hk]at c0;obtain⟨A2,hA2⟩:∃x,ev.getD 2 0=x:=⟨_,rfl⟩;rw[hA2]at c2 ⊢;obtain⟨A3,hA3⟩:∃x,ev.getD 3 0=x:=⟨_,rfl⟩;rw[hA3]at c3 ⊢;go_enter func30,ntmps30;go_wp2_with fail;refine(Gu tb v0 v1 fed done d _ _ _ HT0.o iV.o).mono ?_;rintro e w1 ⟨rfl,x0,x1,t1,k1⟩;have HT1:Hid _:=t1;have kR:Hid (Ch (· =tb) w w1):=(Sm.ch oG.o).trans k1;clear t1 k1;go_wp2_with fail
 first|go_end0|((try simp only[Exit.inBlock,Exit.then]);refine bX (dz rfl _ _ _) rfl ?_)
 first|exact⟨rfl,x0,x1,HT1.o,kR.o⟩|exact⟨rfl,⟨x0,x1,HT1.o⟩,kR.o⟩
theorem XG(tb:Nat)(v0 v1:Value)(fed:ByteArray)(done:Nat)(d:DT)(ev:List Int)(w:World)(ht:bR w tb v0 v1 fed done d)(hok:d.Ok)(hg:jC ev)(h1:ev.getD 0 0≠1)(h2:ev.getD 0 0≠2)(h3:ev.getD 0 0≠3)(h4:ev.getD 0 0≠4):Calls prog 30 #[.pointer (some ⟨tb,0,none⟩),.agg (aA ev)] w fun e w'=>e= .returned (.tuple #[])∧∃v0' v1',bR w' tb v0' v1' fed done (d)∧Ch (· =tb) w w':=by
 have hl:=hg.len;obtain⟨Bw,Db,nK,oG,HT0,c0,c1,c2,c3,c4⟩:=nP ev ht hl;have iV:Hid d.Ok:=hok;clear ht;obtain⟨K,hK⟩:∃K,ev.getD 0 0=K:=⟨_,rfl⟩;rw[hK]at c0 h1 h2 h3 h4;have b1:(K==1)=false:=by simp[h1]
 have b2:(K==2)=false:=by simp[h2]
 have b3:(K==3)=false:=by simp[h3]
 have b4:(K==4)=false:=by simp[h4]
 have b1':decide (K=1)=false:=by simp[h1]
 have b2':decide (K=2)=false:=by simp[h2]
 have b3':decide (K=3)=false:=by simp[h3]
 have b4':decide (K=4)=false:=by simp[h4]
 go_enter func30,ntmps30;go_wp2_with fail
 first|go_end0|((try simp only[Exit.inBlock,Exit.then]);refine bX (dz rfl _ _ _) rfl ?_)
 first|exact⟨rfl,v0,v1,HT0.o,Sm.ch oG.o⟩|exact⟨rfl,⟨v0,v1,HT0.o⟩,Sm.ch oG.o⟩
theorem Uz(tb:Nat)(v0 v1:Value)(fed:ByteArray)(done:Nat)(d:DT)(ev:List Int)(w:World)(ht:bR w tb v0 v1 fed done d)(hok:d.Ok)(hg:jC ev)(hk:ev.getD 0 0=4)(hm:ev.getD 2 0=0)(ct:Nat)(hc16:ct≤16)(hct:ev.getD 4 0=(ct:Int)):Calls prog 30 #[.pointer (some ⟨tb,0,none⟩),.agg (aA ev)] w fun e w'=>e= .returned (.tuple #[])∧∃v0' v1',bR w' tb v0' v1' fed done (d.sequence (ev.getD 3 0) (ev.drop 5) ct)∧Ch (· =tb) w w':=by
 have hl:=hg.len;obtain⟨Bw,Db,nK,oG,HT0,c0,c1,c2,c3,c4⟩:=nP ev ht hl;have iV:Hid d.Ok:=hok;clear ht;rw[hk]at c0;rw[hm]at c2;go_enter func30,ntmps30;go_wp2_with (refine fA _ rfl (.tmp 3) rfl w.heap.size ev rfl hl 46 (0,0) nK.o ?_);refine(CF tb v0 v1 fed done d ev ct _ HT0.o iV.o hl hct hc16 hg.hi).mono ?_;rintro e w1 ⟨rfl,x0,x1,t1,k1⟩;have G1:=(k1.block _ (aK nK.o) (by omega)).trans nK.o;have HT1:Hid _:=t1;have kR:Hid (Ch (· =tb) w w1):=(Sm.ch oG.o).trans k1;have d2:=Db.o _ G1 2 (by omega);have d4:=Db.o _ G1 4 (by omega);rw[hm]at d2;rw[hct]at d4;clear t1 k1 c0 c1 c2 c3 c4 G1;go_wp2_with fail;go_loopw [4] (fun i wr=>i= .int .i64 0∧wr=w1) (fun _ _=>0)
 case atStart=>exact⟨rfl,rfl⟩
 case round=>
  obtain⟨rfl,rfl⟩:=hrel;by_cases hlt:0<ct
  ·have ik:(0:Int)<(ct:Int):=by omega
   go_wp2_with fail
   first|go_end0|((try simp only[Exit.inBlock,Exit.then]);refine bX (dz rfl _ _ _) rfl ?_)
   first|exact⟨rfl,x0,x1,HT1.o,kR.o⟩|exact⟨rfl,⟨x0,x1,HT1.o⟩,kR.o⟩
  ·obtain rfl:ct=0:=by omega
   go_wp2_with fail
   first|go_end0|((try simp only[Exit.inBlock,Exit.then]);refine bX (dz rfl _ _ _) rfl ?_)
   first|exact⟨rfl,x0,x1,HT1.o,kR.o⟩|exact⟨rfl,⟨x0,x1,HT1.o⟩,kR.o⟩
theorem Ux(tb:Nat)(v0 v1:Value)(fed:ByteArray)(done:Nat)(d:DT)(ev:List Int)(w:World)(ht:bR w tb v0 v1 fed done d)(hok:d.Ok)(hg:jC ev)(hk:ev.getD 0 0=4)(hm:ev.getD 2 0≠0)(hq:ev.getD 2 0≠63)(ct:Nat)(hc16:ct≤16)(hct:ev.getD 4 0=(ct:Int)):Calls prog 30 #[.pointer (some ⟨tb,0,none⟩),.agg (aA ev)] w fun e w'=>e= .returned (.tuple #[])∧∃v0' v1',bR w' tb v0' v1' fed done (d)∧Ch (· =tb) w w':=by
 have hl:=hg.len;obtain⟨Bw,Db,nK,oG,HT0,c0,c1,c2,c3,c4⟩:=nP ev ht hl;have iV:Hid d.Ok:=hok;clear ht;rw[hk]at c0;obtain⟨M,hM⟩:∃M,ev.getD 2 0=M:=⟨_,rfl⟩;rw[hM]at c2 hm hq;rw[hct]at c4;have b0:(M==0)=false:=by simp[hm]
 have b0':decide (M=0)=false:=by simp[hm]
 have b6:(M==63)=false:=by simp[hq]
 have b6':decide (M=63)=false:=by simp[hq]
 go_enter func30,ntmps30;go_wp2_with fail;go_loopw [4] (fun i wr=>i= .int .i64 0∧wr=(w.alloc (.cells (aA ev) 46))) (fun _ _=>0)
 case atStart=>exact⟨rfl,rfl⟩
 case round=>
  obtain⟨rfl,rfl⟩:=hrel;by_cases hlt:0<ct
  ·have ik:(0:Int)<(ct:Int):=by omega
   go_wp2_with fail
   first|go_end0|((try simp only[Exit.inBlock,Exit.then]);refine bX (dz rfl _ _ _) rfl ?_)
   first|exact⟨rfl,v0,v1,HT0.o,Sm.ch oG.o⟩|exact⟨rfl,⟨v0,v1,HT0.o⟩,Sm.ch oG.o⟩
  ·obtain rfl:ct=0:=by omega
   go_wp2_with fail
   first|go_end0|((try simp only[Exit.inBlock,Exit.then]);refine bX (dz rfl _ _ _) rfl ?_)
   first|exact⟨rfl,v0,v1,HT0.o,Sm.ch oG.o⟩|exact⟨rfl,⟨v0,v1,HT0.o⟩,Sm.ch oG.o⟩
theorem Uy(tb:Nat)(v0 v1:Value)(fed:ByteArray)(done:Nat)(d:DT)(ev:List Int)(w:World)(ht:bR w tb v0 v1 fed done d)(hok:d.Ok)(hg:jC ev)(hk:ev.getD 0 0=4)(hm:ev.getD 2 0=63)(h1:ev.getD 3 0≠104)(h2:ev.getD 3 0≠108)(ct:Nat)(hc16:ct≤16)(hct:ev.getD 4 0=(ct:Int)):Calls prog 30 #[.pointer (some ⟨tb,0,none⟩),.agg (aA ev)] w fun e w'=>e= .returned (.tuple #[])∧∃v0' v1',bR w' tb v0' v1' fed done (d)∧Ch (· =tb) w w':=by
 have hl:=hg.len;obtain⟨Bw,Db,nK,oG,HT0,c0,c1,c2,c3,c4⟩:=nP ev ht hl;have iV:Hid d.Ok:=hok;clear ht;rw[hk]at c0;rw[hm]at c2;rw[hct]at c4;obtain⟨M,hM⟩:∃M,ev.getD 3 0=M:=⟨_,rfl⟩;rw[hM]at c3 h1 h2;have b0:(M==104)=false:=by simp[h1]
 have b0':decide (M=104)=false:=by simp[h1]
 have b6:(M==108)=false:=by simp[h2]
 have b6':decide (M=108)=false:=by simp[h2]
 go_enter func30,ntmps30;go_wp2_with fail;go_loopw [4] (fun i wr=>∃k:Nat,k≤ct∧i= .int .i64 k∧wr=(w.alloc (.cells (aA ev) 46))) (fun i _=>ct-(intOf i).toNat)
 case atStart=>exact⟨0,dx _,rfl,rfl⟩
 case round=>
  obtain⟨k,hk',rfl,rfl⟩:=hrel;by_cases hlt:k<ct
  ·have ik:(k:Int)<(ct:Int):=by omega
   have vk:IntKind.i64.wrap ((k:Int)+1)=(k:Int)+1:=bD _ (by omega);go_wp2_with fail;go_roundw
   case rel=>exact⟨k+1,by omega,by go_num,trivial⟩
   case measure=>simp[intOf];omega
  ·have ik:decide ((k:Int)<(ct:Int))=false:=by simp;omega
   go_wp2_with fail
   first|go_end0|((try simp only[Exit.inBlock,Exit.then]);refine bX (dz rfl _ _ _) rfl ?_)
   first|exact⟨rfl,v0,v1,HT0.o,Sm.ch oG.o⟩|exact⟨rfl,⟨v0,v1,HT0.o⟩,Sm.ch oG.o⟩
theorem JE(tb:Nat)(v0 v1:Value)(fed:ByteArray)(done:Nat)(d:DT)(ev:List Int)(w:World)(ht:bR w tb v0 v1 fed done d)(hok:d.Ok)(hg:jC ev)(hk:ev.getD 0 0=4)(hm:ev.getD 2 0=63)(h1:ev.getD 3 0=104)(ct:Nat)(hc16:ct≤16)(hct:ev.getD 4 0=(ct:Int)):Calls prog 30 #[.pointer (some ⟨tb,0,none⟩),.agg (aA ev)] w fun e w'=>e= .returned (.tuple #[])∧∃v0' v1',bR w' tb v0' v1' fed done (d.privates true ((ev.drop 5).take ct))∧Ch (· =tb) w w':=by
 have hl:=hg.len;obtain⟨Bw,Db,nK,oG,HT0,c0,c1,c2,c3,c4⟩:=nP ev ht hl;have iV:Hid d.Ok:=hok;clear ht;have O7:Hid _:=h1;rw[hk]at c0;rw[hm]at c2;rw[hct]at c4;rw[h1]at c3;go_enter func30,ntmps30;go_wp2_with fail;go_loopw [4] (fun i wr=>∃k:Nat,k≤ct∧i= .int .i64 k∧bR wr tb v0 v1 fed done (d.privates true ((ev.drop 5).take k))∧wr.heap[w.heap.size]? =some (.cells (aA ev) 46 (0,0))∧Ch (· =tb) w wr) (fun i _=>ct-(intOf i).toNat)
 case atStart=>exact⟨0,dx _,rfl,HT0.o,nK.o,Sm.ch oG.o⟩
 case round=>
  obtain⟨k,hk',rfl,tr,gr,kr⟩:=hrel;have e2:=Db.o _ gr 2 (by omega);have e3:=Db.o _ gr 3 (by omega);have e4:=Db.o _ gr 4 (by omega);rw[hm]at e2;rw[O7.o]at e3;rw[hct]at e4;have yZ:Hid _:=tr;have Je:Hid _:=gr;have Cq:Hid _:=kr;clear tr gr kr c0 c1 c2 c3 c4;by_cases hlt:k<ct
  ·have ik:(k:Int)<(ct:Int):=by omega
   have vk:IntKind.i64.wrap ((k:Int)+1)=(k:Int)+1:=bD _ (by omega);obtain⟨p,hp⟩:∃p,ev.getD (5+k) 0=p:=⟨_,rfl⟩;have HPK:Hid _:=hp;obtain⟨E,hE⟩:∃E,E=d.privates true ((ev.drop 5).take k):=⟨_,rfl⟩;have SY:Hid (E.Ok):=by rw[hE];exact(DT.uV true _ iV.o).1
   have hst:d.privates true ((ev.drop 5).take (k+1))=E.jr p true:=by
    have hl5:k<(ev.drop 5).length:=by simp[hl];omega
    rw[o7 hl5,wZ, ←hE, ←hp]
    congr 1
    simp[List.getD,eG (show 5+k<ev.length by omega)]
   have ni:Hid _:=hst;have hTR:=yZ.o;rw[←hE]at hTR;have Gi:Hid _:=hTR;clear hst hTR hp hE yZ;go_wp2_with fail;have T4:bR ({wr with drawn:=wr.drawn+1}:World) tb v0 v1 fed done E:=Gi.o.sm ((Ch.refl _ _).drewN 1);have S4:({wr with drawn:=wr.drawn+1}:World).heap[w.heap.size]? =some (.cells (aA ev) 46 (0,0)):=Je.o;have K4:Ch (· =tb) w ({wr with drawn:=wr.drawn+1}:World):=Cq.o.drewN 1;refine dX (S:=fun x=>x.heap[w.heap.size]? =some (.cells (aA ev) 46 (0,0))) aX ?_;refine dW 0 1 S4 ?_;refine aj 2 S4 ?_ (v:=.pointer (some ⟨(w.heap.size),5,none⟩));refine aj 5 S4 ?_;simp only[ag,af];refine aj 3 S4 ?_ (v:=.pointer (some ⟨(w.heap.size),(5+k),none⟩));simp only[ag,af];refine aj 6 S4 ?_ (v:=.int .i64 104) (hy:=Or.inl ⟨by rfl,by intro x gY;have UQ:=(Db.o x gY 3 (by omega)).trans (by rw[O7.o]);go_simp;try (first|rfl|go_num)⟩);simp only[ag,af];refine aj 4 S4 ?_ (v:=.int .i64 p) (hy:=Or.inl ⟨by rfl,by intro x gY;have UQ:=(Db.o x gY (5+k) (by omega)).trans (by rw[HPK.o]);go_simp;try (first|rfl|go_num)⟩);refine aj 7 S4 ?_ (v:=.bool true);simp only[ag,af];refine av 8 ?_;refine dN (vs:=[.pointer (some ⟨tb,0,none⟩),.int .i64 p,.bool true]) (yl tb v0 v1 fed done E p true _ T4 SY.o) ?_;rintro v7 w7 ⟨rfl,t7,k7⟩;have S7:=(k7.block _ (aK S4) (by omega)).trans S4;have K7:=K4.trans k7;refine⟨S7,?_⟩
   try simp only[ag,af]
   refine aC ?_;have xq:Hid _:=t7;have WH:Hid _:=S7;have Al:Hid _:=K7;clear t7 k7 S7 K7 S4 T4 K4;go_wp2_with fail;go_roundw
   case rel=>exact⟨k+1,by omega,by go_num,by rw[ni.o];exact xq.o,WH.o,Al.o⟩
   case measure=>simp[intOf];omega
  ·have ik:decide ((k:Int)<(ct:Int))=false:=by simp;omega
   obtain rfl:k=ct:=by omega
   go_wp2_with fail
   first|go_end0|((try simp only[Exit.inBlock,Exit.then]);refine bX (dz rfl _ _ _) rfl ?_)
   first|exact⟨rfl,v0,v1,yZ.o,Cq.o⟩|exact⟨rfl,⟨v0,v1,yZ.o⟩,Cq.o⟩
theorem JF(tb:Nat)(v0 v1:Value)(fed:ByteArray)(done:Nat)(d:DT)(ev:List Int)(w:World)(ht:bR w tb v0 v1 fed done d)(hok:d.Ok)(hg:jC ev)(hk:ev.getD 0 0=4)(hm:ev.getD 2 0=63)(h1:ev.getD 3 0=108)(ct:Nat)(hc16:ct≤16)(hct:ev.getD 4 0=(ct:Int)):Calls prog 30 #[.pointer (some ⟨tb,0,none⟩),.agg (aA ev)] w fun e w'=>e= .returned (.tuple #[])∧∃v0' v1',bR w' tb v0' v1' fed done (d.privates false ((ev.drop 5).take ct))∧Ch (· =tb) w w':=by
 have hl:=hg.len;obtain⟨Bw,Db,nK,oG,HT0,c0,c1,c2,c3,c4⟩:=nP ev ht hl;have iV:Hid d.Ok:=hok;clear ht;have O7:Hid _:=h1;rw[hk]at c0;rw[hm]at c2;rw[hct]at c4;rw[h1]at c3;go_enter func30,ntmps30;go_wp2_with fail;go_loopw [4] (fun i wr=>∃k:Nat,k≤ct∧i= .int .i64 k∧bR wr tb v0 v1 fed done (d.privates false ((ev.drop 5).take k))∧wr.heap[w.heap.size]? =some (.cells (aA ev) 46 (0,0))∧Ch (· =tb) w wr) (fun i _=>ct-(intOf i).toNat)
 case atStart=>exact⟨0,dx _,rfl,HT0.o,nK.o,Sm.ch oG.o⟩
 case round=>
  obtain⟨k,hk',rfl,tr,gr,kr⟩:=hrel;have e2:=Db.o _ gr 2 (by omega);have e3:=Db.o _ gr 3 (by omega);have e4:=Db.o _ gr 4 (by omega);rw[hm]at e2;rw[O7.o]at e3;rw[hct]at e4;have yZ:Hid _:=tr;have Je:Hid _:=gr;have Cq:Hid _:=kr;clear tr gr kr c0 c1 c2 c3 c4;by_cases hlt:k<ct
  ·have ik:(k:Int)<(ct:Int):=by omega
   have vk:IntKind.i64.wrap ((k:Int)+1)=(k:Int)+1:=bD _ (by omega);obtain⟨p,hp⟩:∃p,ev.getD (5+k) 0=p:=⟨_,rfl⟩;have HPK:Hid _:=hp;obtain⟨E,hE⟩:∃E,E=d.privates false ((ev.drop 5).take k):=⟨_,rfl⟩;have SY:Hid (E.Ok):=by rw[hE];exact(DT.uV false _ iV.o).1
   have hst:d.privates false ((ev.drop 5).take (k+1))=E.jr p false:=by
    have hl5:k<(ev.drop 5).length:=by simp[hl];omega
    rw[o7 hl5,wZ, ←hE, ←hp]
    congr 1
    simp[List.getD,eG (show 5+k<ev.length by omega)]
   have ni:Hid _:=hst;have hTR:=yZ.o;rw[←hE]at hTR;have Gi:Hid _:=hTR;clear hst hTR hp hE yZ;go_wp2_with fail;have T4:bR ({wr with drawn:=wr.drawn+1}:World) tb v0 v1 fed done E:=Gi.o.sm ((Ch.refl _ _).drewN 1);have S4:({wr with drawn:=wr.drawn+1}:World).heap[w.heap.size]? =some (.cells (aA ev) 46 (0,0)):=Je.o;have K4:Ch (· =tb) w ({wr with drawn:=wr.drawn+1}:World):=Cq.o.drewN 1;refine dX (S:=fun x=>x.heap[w.heap.size]? =some (.cells (aA ev) 46 (0,0))) aX ?_;refine dW 0 1 S4 ?_;refine aj 2 S4 ?_ (v:=.pointer (some ⟨(w.heap.size),5,none⟩));refine aj 5 S4 ?_;simp only[ag,af];refine aj 3 S4 ?_ (v:=.pointer (some ⟨(w.heap.size),(5+k),none⟩));simp only[ag,af];refine aj 6 S4 ?_ (v:=.int .i64 108) (hy:=Or.inl ⟨by rfl,by intro x gY;have UQ:=(Db.o x gY 3 (by omega)).trans (by rw[O7.o]);go_simp;try (first|rfl|go_num)⟩);simp only[ag,af];refine aj 4 S4 ?_ (v:=.int .i64 p) (hy:=Or.inl ⟨by rfl,by intro x gY;have UQ:=(Db.o x gY (5+k) (by omega)).trans (by rw[HPK.o]);go_simp;try (first|rfl|go_num)⟩);refine aj 7 S4 ?_ (v:=.bool false);simp only[ag,af];refine av 8 ?_;refine dN (vs:=[.pointer (some ⟨tb,0,none⟩),.int .i64 p,.bool false]) (yl tb v0 v1 fed done E p false _ T4 SY.o) ?_;rintro v7 w7 ⟨rfl,t7,k7⟩;have S7:=(k7.block _ (aK S4) (by omega)).trans S4;have K7:=K4.trans k7;refine⟨S7,?_⟩
   try simp only[ag,af]
   refine aC ?_;have xq:Hid _:=t7;have WH:Hid _:=S7;have Al:Hid _:=K7;clear t7 k7 S7 K7 S4 T4 K4;go_wp2_with fail;go_roundw
   case rel=>exact⟨k+1,by omega,by go_num,by rw[ni.o];exact xq.o,WH.o,Al.o⟩
   case measure=>simp[intOf];omega
  ·have ik:decide ((k:Int)<(ct:Int))=false:=by simp;omega
   obtain rfl:k=ct:=by omega
   go_wp2_with fail
   first|go_end0|((try simp only[Exit.inBlock,Exit.then]);refine bX (dz rfl _ _ _) rfl ?_)
   first|exact⟨rfl,v0,v1,yZ.o,Cq.o⟩|exact⟨rfl,⟨v0,v1,yZ.o⟩,Cq.o⟩
end Go.Proofs.YtheibfffilomcaaGreatDoor
