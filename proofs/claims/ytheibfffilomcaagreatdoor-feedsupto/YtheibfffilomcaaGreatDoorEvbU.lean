import Derived.Test.YtheibfffilomcaaGreatDoorTmaU
import Derived.Deep.MidRow
import Derived.Deep.QuietTactic
import Derived.BigQuiet
set_option linter.all false
namespace Go.Proofs.YtheibfffilomcaaGreatDoor
open Go.RowKit Go.Proofs.Tryz
variable {w w' u u':World} {mb mo B g:Nat} {ops:Array Oper} {rest:List Oper} {a:Act} {Q:Exit→Act→World→Prop} {E:List (List Int)} {fn:Func} {p:Tmp}
def z16:List Int:=List.replicate 16 0
theorem jb:z16.length=16:=rfl
def aO:List Int:=[0,0,0,0,0]++z16
structure MS where
 md:Int
 mr:Int
 ct:Int
 ps:List Int
def MS.l (s:MS):List Int:=[s.md,s.mr,s.ct]++s.ps
def MS.zero:MS:=⟨0,0,0,z16⟩
def fe (c:Int):Bool:=decide (64≤c∧c≤126)
def mU (c:Int):Bool:=c==63||c==62||c==61||c==60
def lC (c:Int):Bool:=c==93||c==80||c==88||c==94||c==95
def MS.jm (s:MS):MS:=⟨s.md,s.mr,min (s.ct+1) 17,if s.ct<16 then s.ps.set s.ct.toNat (-1)else s.ps⟩
def MS.jF (s:MS) (d:Int):MS:=
 if 16<s.ct then s else⟨s.md,s.mr,s.ct,s.ps.set (s.ct-1).toNat (min (max (s.ps.getD (s.ct-1).toNat 0) 0*10+d) 65535)⟩
def MS.nA (s:MS) (f:Int):List Int:=[4,0,s.mr,f,min s.ct 16]++s.ps
def MS.dJ (s:MS) (c:Int):MS × List Int × Bool:=
 if 48≤c∧c≤57 then(s.jF (c-48),aO,false)else if c=59 then(s.jm,aO,false)else if fe c=true then(.zero,s.nA c,true)else(⟨4,0,0,z16⟩,aO,false)
def MS.eZ (s:MS) (c:Int):MS × List Int × Bool:=
 if c=91 then(MS.jm ⟨2,0,0,z16⟩,aO,false)else if lC c=true then(⟨5,0,0,z16⟩,aO,false)else if c≤47 then(⟨s.md,c,s.ct,s.ps⟩,aO,false)
 else if c≤126 then(.zero,[3,0,s.mr,c,0]++z16,true)else(.zero,aO,false)
def MS.dm (s:MS) (c:Int):MS × List Int × Bool:=
 if s.md=0 then(s,[1,c,0,0,0]++z16,true)else if s.md=1 then s.eZ c
 else if s.md=2 then(if mU c=true then(⟨3,c,s.ct,s.ps⟩,aO,false)else MS.dJ ⟨3,s.mr,s.ct,s.ps⟩ c)else if s.md=3 then s.dJ c
 else if s.md=4 then(if fe c=true then(.zero,aO,false)else(s,aO,false))else(s,aO,false)
def MS.skip (s:MS) (c:Int):MS:=if c=7∨c=156 then .zero else s
def MS.take (s:MS) (c:Int):MS × List Int × Bool:=
 if c=24∨c=26 then(.zero,aO,false)else if c=27 then(⟨1,0,0,z16⟩,aO,false)else if s.md=5 then(s.skip c,aO,false)
 else if c<32 then(s,[2,c,0,0,0]++z16,true)else if c≠127 then s.dm c else(s,aO,false)
structure MS.ok (s:MS):Prop where
 len:s.ps.length=16
 m0:0≤s.md
 m5:s.md≤5
 c0:0≤s.ct
 c1:s.ct≤17
 c2:s.md=2∨s.md=3→1≤s.ct
 r0: -10000000≤s.mr
 r1:s.mr≤10000000
 p:∀x∈s.ps,-1≤x∧x≤65535
theorem FN:∀x∈z16,-1≤x∧x≤65535:=by intro x hx;have:=AJ hx;omega
theorem L6{l:List Int}(h:∀x∈l,-1≤x∧x≤65535)(j:Nat): -1≤l.getD j 0∧l.getD j 0≤65535:=by
 by_cases hj:j<l.length
 ·have:l.getD j 0∈l:=by simp[List.getD,eG hj]
  exact h _ this
 ·simp[List.getD,wM (by omega:l.length≤j)]
theorem KF{l:List Int}(h:∀x∈l,-1≤x∧x≤65535)(j:Nat)(v:Int)(h0: -1≤v)(h1:v≤65535):∀x∈l.set j v,-1≤x∧x≤65535:=by
 intro x hx;rcases List.mem_or_eq_of_mem_set hx with hx|rfl
 ·exact h x hx
 ·exact⟨h0,h1⟩
theorem MS.ok.zero:MS.zero.ok:=⟨rfl,by decide,by decide,by decide,by decide,by decide,by decide,by decide,FN⟩
theorem MS.ok.mode{m:Int}(h0:0≤m)(h1:m≤5)(h2:m≠2)(h3:m≠3):MS.ok ⟨m,0,0,z16⟩:=⟨rfl,h0,h1,by dsimp only;omega,by dsimp only;omega,fun h=>by dsimp only at h;omega,by dsimp only;omega,by dsimp only;omega,FN⟩
theorem MS.ok.jm{s:MS}(h:s.ok):s.jm.ok:=by
 obtain⟨a1,a2,a3,a4,a5,a6,a7,a8,a9⟩:=h;refine⟨?_,a2,a3,?_,?_,fun _=>?_,a7,a8,?_⟩
 ·unfold MS.jm;dsimp only;split
  ·simp[a1]
  ·exact a1
 ·unfold MS.jm;dsimp only;omega
 ·unfold MS.jm;dsimp only;omega
 ·unfold MS.jm;dsimp only;omega
 ·unfold MS.jm;dsimp only;split
  ·exact KF a9 _ _ (by omega) (by omega)
  ·exact a9
theorem MS.ok.jF{s:MS}(h:s.ok){d:Int}(h0:0≤d)(h1:d≤9):(s.jF d).ok:=by
 obtain⟨a1,a2,a3,a4,a5,a6,a7,a8,a9⟩:=h;unfold MS.jF;split
 ·exact⟨a1,a2,a3,a4,a5,a6,a7,a8,a9⟩
 ·refine⟨by simp[a1],a2,a3,a4,a5,a6,a7,a8,?_⟩;dsimp only;have:=L6 a9 (s.ct-1).toNat;exact KF a9 _ _ (by omega) (by omega)
theorem MS.ok.dJ{s:MS}(h:s.ok)(c:Int):(s.dJ c).1.ok:=by
 unfold MS.dJ;by_cases a:48≤c∧c≤57
 ·rw[ak a];exact h.jF (by omega) (by omega)
 ·rw[ai a];by_cases b:c=59
  ·rw[ak b];exact h.jm
  ·rw[ai b];by_cases d:fe c=true
   ·rw[ak d];exact MS.ok.zero
   ·rw[ai d];exact MS.ok.mode (by omega) (by omega) (by omega) (by omega)
theorem MS.ok.eZ{s:MS}(h:s.ok){c:Int}(hc0:0≤c):(s.eZ c).1.ok:=by
 unfold MS.eZ;by_cases a1:c=91
 ·rw[ak a1];refine⟨rfl,by decide,by decide,by decide,by decide,by decide,by decide,by decide,?_⟩;unfold MS.jm;dsimp only;rw[ak (by decide)];exact KF FN _ _ (by omega) (by omega)
 ·rw[ai a1];by_cases a2:lC c=true
  ·rw[ak a2];exact MS.ok.mode (by omega) (by omega) (by omega) (by omega)
  ·rw[ai a2];by_cases a3:c≤47
   ·rw[ak a3];obtain⟨b1,b2,b3,b4,b5,b6,b7,b8,b9⟩:=h;exact⟨b1,b2,b3,b4,b5,b6,by dsimp only;omega,by dsimp only;omega,b9⟩
   ·rw[ai a3];by_cases a4:c≤126
    ·rw[ak a4];exact MS.ok.zero
    ·rw[ai a4];exact MS.ok.zero
theorem MS.ok.third{s:MS}(h:s.ok)(hm:s.md=2){r:Int}(h0: -10000000≤r)(h1:r≤10000000):MS.ok ⟨3,r,s.ct,s.ps⟩:=by obtain⟨b1,b2,b3,b4,b5,b6,b7,b8,b9⟩:=h;exact⟨b1,by dsimp only;omega,by dsimp only;omega,b4,b5,fun _=>b6 (Or.inl hm),h0,h1,b9⟩
theorem MS.ok.dm{s:MS}(h:s.ok){c:Int}(hc0:0≤c)(hc1:c≤10000000):(s.dm c).1.ok:=by
 unfold MS.dm;by_cases a0:s.md=0
 ·rw[ak a0];exact h
 ·rw[ai a0];by_cases a1:s.md=1
  ·rw[ak a1];exact h.eZ hc0
  ·rw[ai a1];by_cases a2:s.md=2
   ·rw[ak a2];by_cases b:mU c=true
    ·rw[ak b];exact h.third a2 (by omega) (by omega)
    ·rw[ai b];exact(h.third a2 h.r0 h.r1).dJ c
   ·rw[ai a2];by_cases a3:s.md=3
    ·rw[ak a3];exact h.dJ c
    ·rw[ai a3];by_cases a4:s.md=4
     ·rw[ak a4];by_cases b:fe c=true
      ·rw[ak b];exact MS.ok.zero
      ·rw[ai b];exact h
     ·rw[ai a4];exact h
theorem MS.ok.skip{s:MS}(h:s.ok)(c:Int):(s.skip c).ok:=by
 unfold MS.skip;split
 ·exact MS.ok.zero
 ·exact h
theorem MS.ok.take{s:MS}(h:s.ok){c:Int}(hc0:0≤c)(hc1:c≤10000000):(s.take c).1.ok:=by
 unfold MS.take;by_cases a0:c=24∨c=26
 ·rw[ak a0];exact MS.ok.zero
 ·rw[ai a0];by_cases a1:c=27
  ·rw[ak a1];exact MS.ok.mode (by omega) (by omega) (by omega) (by omega)
  ·rw[ai a1];by_cases a2:s.md=5
   ·rw[ak a2];exact h.skip c
   ·rw[ai a2];by_cases a3:c<32
    ·rw[ak a3];exact h
    ·rw[ai a3];by_cases a4:c≠127
     ·rw[ak a4];exact h.dm hc0 hc1
     ·rw[ai a4];exact h
def eF (l:List Int):List Value:=l.map (Value.int .i64)
def aA (l:List Int):Array Value:=(eF l).toArray
theorem jk(l:List Int):(eF l).length=l.length:=by simp[eF]
theorem gP(l:List Int):(aA l).size=l.length:=by simp[aA,eF]
theorem G9(l:List Int):∀v∈eF l,v.oneCell'=true:=by intro v hv;obtain⟨x,_,rfl⟩:=List.mem_map.1 hv;rfl
theorem yt(l:List Int):(aA l).all (·.oneCell')=true:=all_oneCell_toArray (G9 l)
theorem jo(l:List Int)(j:Nat)(h:j<l.length):(eF l)[j]? =some (.int .i64 (l.getD j 0)):=by simp[eF,List.getD,eG h]
structure kS (w:World) (mb mo:Nat) (s:MS):Prop where
 len:s.ps.length=16
 Cw:w.rangeAt mb mo (eF s.l)
 fr:∀j,j<19→w.frozen? ⟨mb,mo+j,none⟩=false
theorem kS.Wd{s:MS}(h:kS w mb mo s):s.l.length=19:=by simp[MS.l,h.len]
theorem kS.at{s:MS}(h:kS w mb mo s)(j:Nat)(hj:j<19):w.cell? ⟨mb,mo+j,none⟩=some (.int .i64 (s.l.getD j 0)):=
 h.Cw j _ (jo _ _ (by rw[h.Wd];exact hj))
theorem kS.c0{s:MS}(h:kS w mb mo s):w.cell? ⟨mb,mo,none⟩=some (.int .i64 s.md):=h.at 0 (by omega)
theorem kS.c1{s:MS}(h:kS w mb mo s):w.cell? ⟨mb,mo+1,none⟩=some (.int .i64 s.mr):=h.at 1 (by omega)
theorem kS.c2{s:MS}(h:kS w mb mo s):w.cell? ⟨mb,mo+2,none⟩=some (.int .i64 s.ct):=h.at 2 (by omega)
theorem kS.cp{s:MS}(h:kS w mb mo s)(j:Nat)(hj:j<16):w.cell? ⟨mb,mo+3+j,none⟩=some (.int .i64 (s.ps.getD j 0)):=by have:=h.at (3+j) (by omega);rw[←Nat.add_assoc]at this;rw[this];rw[show 3+j=j+3 by omega];simp[MS.l]
theorem kS.lt{w:World}{mb mo:Nat}{s:MS}(h:kS w mb mo s):mb<w.heap.size:=F4 _ _ h.c0
theorem kS.there{s:MS}(h:kS w mb mo s):w.there mb mo 19:=fun j hj=>⟨by rw[h.at j hj];rfl,h.fr j hj⟩
theorem kS.kept{w w':World}{mb mo:Nat}{s:MS}(h:kS w mb mo s)(hb:w'.heap[mb]? =w.heap[mb]?):kS w' mb mo s:=
 ⟨h.len,fun j v hv=>(dA hb).trans (h.Cw j v hv),fun j hj=>(CY hb).trans (h.fr j hj)⟩
structure Km (mb mo:Nat) (w w':World):Prop where
 os:w'.os=w.os
 tape:w'.tape=w.tape
 output:w'.output=w.output
 size:w.heap.size≤w'.heap.size
 block:∀k,k<w.heap.size→k≠mb→w'.heap[k]? =w.heap[k]?
 cell:∀o,(o<mo∨mo+19≤o)→w'.cell? ⟨mb,o,none⟩=w.cell? ⟨mb,o,none⟩
 frozen:∀o,w'.frozen? ⟨mb,o,none⟩=w.frozen? ⟨mb,o,none⟩
theorem Km.refl(mb mo:Nat)(w:World):Km mb mo w w:=⟨rfl,rfl,rfl,bN _,fun _ _ _=>rfl,fun _ _=>rfl,fun _=>rfl⟩
theorem Km.trans{a b c:World}(h:Km mb mo a b)(k:Km mb mo b c):Km mb mo a c:=
 ⟨k.os.trans h.os,k.tape.trans h.tape,k.output.trans h.output,iD h.size k.size,fun i hi hn=>(k.block i (fJ hi h.size) hn).trans (h.block i hi hn),fun o ho=>(k.cell o ho).trans (h.cell o ho),fun o=>(k.frozen o).trans (h.frozen o)⟩
theorem Km.of_below(h:Below w.heap.size w w')(hm:mb<w.heap.size):Km mb mo w w':=
 ⟨h.os,h.tape,h.output,h.size,fun k hk _=>h.block k hk,fun _ _=>h.cell hm,fun _=>h.frozen hm⟩
theorem Km.below(h:Km mb mo w w')(hB:B≤mb)(hm:mb≤w.heap.size):Below B w w':=
 ⟨h.os,h.tape,h.output,h.size,fun k hk=>h.block k (by omega) (by omega)⟩
theorem Km.own(h:Km mb mo w u)(hg:u.grownBy u' (some g))(hw:w.heap.size≤g)(hm:mb<w.heap.size):Km mb mo w u':=by
 have hmb:u'.heap[mb]? =u.heap[mb]? :=hg.block mb (fJ hm h.size) (fun e=>by simp at e;omega)
 exact⟨hg.os.trans h.os,hg.tape.trans h.tape,hg.output.trans h.output,iD h.size hg.size,fun k hk hn=>(hg.block k (fJ hk h.size) (fun e=>by simp at e;omega)).trans (h.block k hk hn),
  fun o ho=>(dA hmb).trans (h.cell o ho),fun o=>(CY hmb).trans (h.frozen o)⟩
theorem Km.alloc{mb mo:Nat}{w u:World}(h:Km mb mo w u)(o:Obj)(hm:mb<w.heap.size):Km mb mo w (u.alloc o):=
 h.trans (Km.of_below ((dU _ _).alloc (bN _) o) (fJ hm h.size))
theorem Km.drewN(h:Km mb mo w u)(n:Nat):Km mb mo w (u.drewN n):=⟨h.os,h.tape,h.output,h.size,h.block,h.cell,h.frozen⟩
theorem kS.drewN{s:MS}(h:kS w mb mo s)(n:Nat):kS (w.drewN n) mb mo s:=h.kept rfl
theorem kS.alloc{w:World}{mb mo:Nat}{s:MS}(h:kS w mb mo s)(o:Obj):kS (w.alloc o) mb mo s:=h.kept (gK _ _ _ h.lt)
theorem kS.own{s:MS}(h:kS w mb mo s)(hg:w.grownBy u' (some g))(hn:g≠mb):kS u' mb mo s:=h.kept (hg.block mb h.lt (fun e=>by simp at e;omega))
theorem iR(b:Nat):∀(vs:List Value) (o:Nat) (w:World) (k:Nat),k≠b→(w.setCells b o vs).heap[k]? =w.heap[k]?
 | [],_,_,_,_=>rfl
 |v::r,o,w,k,h=>by rw[World.setCells,iR b r (o+1) _ k h];exact AQ _ _ _ _ h
theorem size_setCells(b:Nat):∀(vs:List Value) (o:Nat) (w:World),(w.setCells b o vs).heap.size=w.heap.size∧(w.setCells b o vs).os=w.os∧(w.setCells b o vs).tape=w.tape∧(w.setCells b o vs).output=w.output
 | [],_,_=>⟨rfl,rfl,rfl,rfl⟩
 |v::r,o,w=>by rw[World.setCells];obtain⟨a,b,c,d⟩:=size_setCells b r (o+1) (w.setCell ⟨b,o,none⟩ v);exact⟨a.trans (by simp[World.setCell]),b,c,d⟩
theorem YH:(prog.info? 71).map (·.size)=some 19:=by kernel_rfl
theorem gZ:(prog.info? 46).map (·.size)=some 21:=by kernel_rfl
theorem mV{o:Oper}(u:World)(hgd:o.guard=none)(x y:Operand)(ho:o.op= .store 71 x y)(mb mo:Nat)(s s':MS)(hx:a.eval x= .pointer (some ⟨mb,mo,none⟩))(arr:Array Value)(hy:a.eval y= .agg arr)(harr:arr=aA s'.l)(hs':s'.ps.length=16)(hm:kS u mb mo s)(h:∀u',kS u' mb mo s'→Km mb mo u u'→u'.heap.size=u.heap.size→wpList prog ops Q rest (a.put o.dst undef) u'):wpList prog ops Q (o::rest) a u:=by
 have hl:s'.l.length=19:=by simp[MS.l,hs']
 subst harr;refine wpList_store_mid hgd 71 x y ho mb mo (aA s'.l) hx hy (by rw[gP,hl];exact hm.there) (by rw[gP,hl];exact YH) (yt _) ?_;have e:(aA s'.l).toList=eF s'.l:=rfl;rw[e];have hz:=size_setCells mb (eF s'.l) mo u;have hln:(eF s'.l).length=19:=by rw[jk,hl]
 refine h _ ⟨hs',World.rangeAt_setCells_same u mb mo _ (by rw[hln];exact hm.there),fun j hj=>by rw[World.frozen?_setCells];exact hm.fr j hj⟩
  ⟨hz.2.1,hz.2.2.1,hz.2.2.2,by omega,fun k _ hn=>iR mb _ _ _ k hn,fun o ho=>World.cell?_setCells_out mb _ _ _ _ (fun _ _=>by rw[hln];exact ho),fun o=>World.frozen?_setCells mb _ _ _ _⟩ hz.1
theorem b_{o:Oper}(u:World)(hgd:o.guard=none)(x y:Operand)(ho:o.op= .store 46 x y)(g:Nat)(old ev:List Int)(hx:a.eval x= .pointer (some ⟨g,0,none⟩))(arr:Array Value)(hy:a.eval y= .agg arr)(harr:arr=aA ev)(hev:ev.length=21)(t:TypeId)(hg:u.heap[g]? =some (.cells (aA old) t (0,0)))(hold:old.length=21)(h:∀u',u'.heap[g]? =some (.cells (aA ev) t (0,0))→u.grownBy u' (some g)→u'.heap.size=u.heap.size→wpList prog ops Q rest (a.put o.dst undef) u'):wpList prog ops Q (o::rest) a u:=by
 subst harr;refine wpList_store_row hgd 46 x y ho g (aA ev) hx hy t (aA old) hg (by rw[gP,hev];exact gZ) (by rw[gP,gP,hev,hold]) (yt _) ?_;refine h _ (setRow_heap u g _ _ t _ hg) ⟨rfl,rfl,rfl,by simp,fun k _ hk=>setRow_other u g k _ (fun e=>hk (by simp[e]))⟩ (by simp)
theorem fA{o:Oper}(u:World)(hgd:o.guard=none)(x:Operand)(ho:o.op= .load 46 x)(g:Nat)(ev:List Int)(hx:a.eval x= .pointer (some ⟨g,0,none⟩))(hev:ev.length=21)(t:TypeId)(fr:Nat × Nat)(hg:u.heap[g]? =some (.cells (aA ev) t fr))(h:wpList prog ops Q rest (a.put o.dst (.agg (aA ev))) u):wpList prog ops Q (o::rest) a u:=
 fC hgd 46 x ho g hx t (aA ev) fr _ hg underlying46 rfl (by rw[gP,hev];exact gZ) h
theorem Kr{q:Tmp}(h:fn.results= #[.cell p 46,.tmp q])(tmps:Array Value)(w:World)(g:Nat)(ev:List Int)(hev:ev.length=21)(t:TypeId)(fr:Nat × Nat)(hp:tmps.getD p undef= .pointer (some ⟨g,0,none⟩))(hg:w.heap[g]? =some (.cells (aA ev) t fr)):
 (results fn tmps).run prog w= .ok (.tuple #[.agg (aA ev),tmps.getD q undef]) w:=by
 have hp':tmps[p]?.getD undef= .pointer (some ⟨g,0,none⟩):=by simpa using hp
 simp[results,h,hp',asAddr,run_loadVar_row w g t 46 (aA ev) fr _ hg underlying46 rfl (by rw[gP,hev];exact gZ)]
theorem iF(h:fn.results= #[.cell p 46])(tmps:Array Value)(w:World)(g:Nat)(ev:List Int)(hev:ev.length=21)(t:TypeId)(fr:Nat × Nat)(hp:tmps.getD p undef= .pointer (some ⟨g,0,none⟩))(hg:w.heap[g]? =some (.cells (aA ev) t fr)):
 (results fn tmps).run prog w= .ok (.agg (aA ev)) w:=
 results_cell_row h tmps w g t (aA ev) fr _ hp hg underlying46 rfl (by rw[gP,hev];exact gZ)
theorem Dw(off:Nat):∀(v:List Value) (k:Nat) (A:Array Value) (i:Nat),off+k+v.length≤A.size→
 ((v.zipIdx k).foldl (fun cs x=>cs.setIfInBounds (off+x.2) x.1) A)[i]? =(if off+k≤i∧i<off+k+v.length then v[i-(off+k)]? else A[i]?)∧((v.zipIdx k).foldl (fun cs x=>cs.setIfInBounds (off+x.2) x.1) A).size=A.size
 | [],k,A,i,h=>by simp only[List.zipIdx_nil,List.foldl_nil,eP,uw];rw[ai (by omega)];exact⟨rfl,trivial⟩
 |c::v,k,A,i,h=>by
  simp only[List.zipIdx_cons,List.foldl_cons,fE]at h ⊢;obtain⟨h1,h2⟩:=Dw off v (k+1) (A.setIfInBounds (off+k) c) i (by simp;omega);refine⟨?_,by rw[h2];simp⟩;rw[h1];by_cases hi:i=off+k
  ·subst hi;rw[ai (by omega),ak (by omega)];simp[show off+k<A.size by omega]
  ·by_cases hr:off+(k+1)≤i∧i<off+(k+1)+v.length
   ·rw[ak hr,ak (by omega)];rw[show i-(off+k)=(i-(off+(k+1)))+1 by omega,F5]
   ·rw[ai hr,ai (by omega),Array.getElem?_setIfInBounds,ai (by omega)]
theorem Rq(A:Array Value)(done e:List Int)(off:Nat)(ho:done.length=off)(hA:A.toList.take off=eF done)(hs:off+e.length≤A.size):
 ((aA e).zipIdx.foldl (fun cs x=>cs.setIfInBounds (off+x.2) x.1) A).size=A.size∧(((aA e).zipIdx.foldl (fun cs x=>cs.setIfInBounds (off+x.2) x.1) A).toList.take (off+e.length))=eF (done++e):=by
 have hz:(aA e).zipIdx.foldl (fun cs x=>cs.setIfInBounds (off+x.2) x.1) A=((eF e).zipIdx 0).foldl (fun cs x=>cs.setIfInBounds (off+x.2) x.1) A:=by rw[←Array.foldl_toList];simp[aA]
 rw[hz];have key:=fun i=>Dw off (eF e) 0 A i (by rw[jk];omega);refine⟨(key 0).2,?_⟩;apply List.ext_getElem?;intro i;have hi:=(key i).1;rw[mJ];by_cases h1:i<off+e.length
 ·rw[ak h1,Array.getElem?_toList,hi,jk];by_cases h2:off≤i
  ·rw[ak (by omega)];simp only[eF,List.map_append,uw];rw[og (by simp;omega)];simp[ho]
  ·rw[ai (by omega)];have:(A.toList.take off)[i]? =A[i]? :=by rw[mJ,ak (by omega),Array.getElem?_toList]
   rw[←this,hA];simp only[eF,List.map_append];rw[qA (by simp;omega)]
 ·rw[ai h1];symm;apply wM;simp[eF];omega
theorem SI(u:World):(zeroValue 46).run prog u= .ok (.agg (aA aO)) u:=by kernel_rfl
theorem sizeOf44(u:World):(sizeOf 46).run prog u= .ok 21 u:=by kernel_rfl
def tL:Nat→List (List Int)→List (Nat × Value)
 |_,[]=>[]
 |i,e::r=>(i,.agg (aA e))::tL (i+1) r
theorem GK:∀(E:List (List Int)) (i:Nat) (done:List Int) (A:Array Value),done.length=i*21→A.toList.take (i*21)=eF done→A.size=(i+E.length)*21→(∀e∈E,e.length=21)→
 Instr.fill (fun i=>some (i*21,21)) A (tL i E)=some (aA (done++E.flatten))
 | [],i,done,A,hd,hA,hs,_=>by simp only[tL,Instr.fill,List.flatten_nil,gp,xW];apply Array.toList_inj.1;rw[l6 (by rw[Array.length_toList,hs];simp)]at hA;rw[hA];rfl
 |e::r,i,done,A,hd,hA,hs,hE=>by
  have he:=hE e (by simp);have hsz:i*21+21≤A.size:=by rw[hs];simp only[fE];omega
  have h:=Rq A done e (i*21) hd hA (by rw[he];exact hsz);simp only[tL,Instr.fill,Value.cells,gP,he];rw[ai (by simp;omega)];have ih:=GK r (i+1) (done++e) _ (by simp[hd,he];omega) (by rw[show(i+1)*21=i*21+e.length by rw[he];omega];exact h.2) (by rw[h.1,hs];simp only[fE];omega) (fun x hx=>hE x (by simp[hx]));rw[ih];simp
theorem YS(u:World)(E:List (List Int))(hE:∀e∈E,e.length=21)(h0:0<E.length)(hk:E.length≤1000):
 (Instr.buildSlice 41 E.length (tL 0 E).toArray).run prog u= .ok (.slice (some ⟨u.heap.size,0,none⟩) E.length E.length) (u.alloc (.cells (aA E.flatten) 46)):=by
 have hf:=GK E 0 [] ((Array.range (E.length*21)).map ((aA aO)[· % (aA aO).size]!)) rfl (by simp[eF]) (by simp) hE;have hz:(E.length*21=0)=False:=by simp;omega
 have hlim:(E.length*21>2 ^ 24)=False:=by simp;omega
 simp only[Instr.buildSlice,jV,run_underlying underlying41,jU,sizeOf44,hz,hlim,ou,SI,mK,Value.cells,hf,mP];rfl
def uJ (w:World) (base:Nat) (v:Value) (E:List (List Int)):Prop:=w.ownsRow base 46 21 v E.length (eF E.flatten)
theorem uJ.below{base:Nat}{v:Value}(h:uJ w base v E)(hb:Below w.heap.size w w'):uJ w' base v E:=
 xU (row:=none) h ⟨hb.os,hb.tape,hb.output,hb.size,fun k hk _=>hb.block k hk⟩ (by cases hv:v.ownBlock<;>simp)
theorem uJ.mono{B':Nat}{v:Value}(h:uJ w B v E)(hB:B'≤B):uJ w B' v E:=by
 obtain⟨h1,h2⟩:=h;refine⟨h1,?_⟩;rcases h2 with h2|⟨g,cap,cur,hv,hg,r⟩
 ·exact Or.inl h2
 ·exact Or.inr ⟨g,cap,cur,hv,iD hB hg,r⟩
theorem UX:(prog.info? 46).map (fun i=>(i.zero,i.size,i.bytes))=some (some (.agg (aA aO)),21,168):=by kernel_rfl
theorem Qx(hE:∀e∈E,e.length=21):E.flatten.length=E.length*21:=by
 induction E with
 |nil=>rfl
 |cons e E ih=>rw[List.flatten_cons,fU,hE e (by simp),ih fun x hx=>hE x (by simp[hx]),fE];omega
theorem ac9{o:Oper}(u:World)(hgd:o.guard=none)(E:List (List Int))(hE:∀e∈E,e.length=21)(h0:0<E.length)(hk:E.length≤1000)(parts:Array (Nat × Operand))(n:Nat)(hn:n=E.length)(ho:o.op= .buildSlice 41 n parts)(hp:(parts.map fun(i,x)=>(i,a.eval x))=(tL 0 E).toArray)(h:wpList prog ops Q rest (a.put o.dst (.slice (some ⟨u.heap.size,0,none⟩) n n)) (u.alloc (.cells (aA E.flatten) 46))):wpList prog ops Q (o::rest) a u:=by
 subst hn;refine oq hgd fun K hK=>?_;unfold Oper.wp execOp;simp only[ho,hp,jV,YS u E hE h0 hk,jU,mK];exact hK _ _ h
theorem zS{o:Oper}(u:World)(hgd:o.guard=none)(x:Operand)(ho:o.op= .buildSlice 41 1 #[(0,x)])(e:List Int)(he:e.length=21)(hx:a.eval x= .agg (aA e))(h:wpList prog ops Q rest (a.put o.dst (.slice (some ⟨u.heap.size,0,none⟩) 1 1)) (u.alloc (.cells (aA e) 46))):wpList prog ops Q (o::rest) a u:=by
 refine ac9 u hgd [e] (by simp[he]) (by simp) (by simp) _ 1 rfl ho (by simp[hx,tL]) ?_;simpa using h
theorem vZ{o:Oper}(u:World)(hgd:o.guard=none)(s x:Operand)(ho:o.op= .call {callee:=.builtin .append,args:=#[s,x],argTypes:=#[41,41]})(base:Nat)(v:Value)(L Y:List (List Int))(arr:Array Value)(harr:arr=aA Y.flatten)(hY:∀e∈Y,e.length=21)(h0:0<Y.length)(hs:a.eval s=v)(own:uJ u base v L)(g k:Nat)(hg:g=u.heap.size)(hk:k=Y.length)(hx:a.eval x= .slice (some ⟨g,0,none⟩) k k)(hLn:L.length+Y.length≤100000000)(hb:base≤u.heap.size)(h:∀v' w',uJ w' base v' (L++Y)→u.grownBy w' v.ownBlock→Hid (v'.ownBlock=v.ownBlock∨∃k,v'.ownBlock=some k∧u.heap.size≤k)→
   (∀c:List Int,c.length=21→L=List.replicate L.length c→Y=List.replicate Y.length c→∀b z p,uJ u b z (List.replicate p c)→uJ w' b z (List.replicate p c))→wpList prog ops Q rest (a.put o.dst v') w'):
 wpList prog ops Q (o::rest) a (u.alloc (.cells arr 46)):=by
 obtain⟨i0,hi,hz0,hz1,hz2⟩:=info_parts UX;subst hg hk harr;have hrep:∀(p:Nat) (c:List Int),qQ p (eF c)=eF (List.replicate p c).flatten:=by
  intro p c;unfold qQ eF;induction p with
  |zero=>rfl
  |succ p ih=>rw[AO,List.flatten_cons,ih,AO,List.flatten_cons,List.map_append]
 refine jI _ hgd s x 41 ho base 46 i0 (.agg (aA aO)) 21 168 underlying41 hi hz0 hz1 hz2 (by rfl) v _ _ hs (xS own _) ⟨u.heap.size,0,none⟩ Y.length Y.length (eF Y.flatten) hx (by rw[jk,Qx hY]) (vK _ _ _) (G9 _) h0 ?_ ?_ ?_ ?_
 ·unfold maxLen;omega
 ·omega
 ·simp;omega
 ·intro v' w' hown hgrow hblk hkeep;refine h v' w' ?_ ⟨hgrow.os,hgrow.tape,hgrow.output,iD (by simp) hgrow.size,fun k hk hn=>(hgrow.block k (by simp;omega) hn).trans (gK u _ _ hk)⟩ ?_ ?_
  ·unfold uJ;rw[fU,List.flatten_append];have e:eF (L.flatten++Y.flatten)=eF L.flatten++eF Y.flatten:=by simp[eF]
   rw[e];exact hown
  ·rcases hblk with e|⟨k,e,hk⟩
   ·exact Or.inl e
   ·exact Or.inr ⟨k,e,by simp at hk;omega⟩
  ·intro c hc e1 e2 b z p hz;have hkk:=hkeep (eF c) (by rw[jk,hc]) (by rw[hrep, ←e1]) (by rw[hrep, ←e2]) b z p;unfold uJ at hz ⊢;rw[kJ]at hz ⊢;rw[←hrep]at hz ⊢;exact hkk (xS hz _)
end Go.Proofs.YtheibfffilomcaaGreatDoor
