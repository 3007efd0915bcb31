import Derived.Test.YtheibfffilomcabGreatDoorEvnU
import Derived.Deep.MidRow
import Derived.Deep.QuietTactic
import Derived.BigQuiet
set_option linter.all false
set_option maxHeartbeats 1000000
namespace Go.Proofs.YtheibfffilomcabGreatDoor
open Go.RowKit Go.Proofs.Tryz
variable {w w' a b u u':World} {mb mo rb g ro B base k:Nat} {s:MS} {P R:Nat→Prop} {v v':Value} {ops:Array Oper} {rest:List Oper} {Q:Exit→Act→World→Prop} {r:List aC} {fn:Func} {p:Tmp} {E:List (List Int)} {L:List Int}
def jV (l:List Int):List Value:=l.map (Value.int .i64)
def aO (l:List Int):Array Value:=(jV l).toArray
theorem qP(l:List Int):(jV l).length=l.length:=by simp[jV]
theorem jD(l:List Int):(aO l).size=l.length:=by simp[aO,jV]
theorem OG(l:List Int):∀v∈jV l,v.oneCell'=true:=by intro v hv;obtain⟨x,_,rfl⟩:=List.mem_map.1 hv;rfl
theorem EG(l:List Int):(aO l).all (·.oneCell')=true:=all_oneCell_toArray (OG l)
theorem uG(l:List Int)(j:Nat)(h:j<l.length):(jV l)[j]? =some (.int .i64 (l.getD j 0)):=by simp[jV,List.getD,gK h]
structure iD (w:World) (mb mo:Nat) (s:MS):Prop where
 len:s.ps.length=16
 ZN:w.rangeAt mb mo (jV s.l)
 fr:∀j,j<19→w.frozen? ⟨mb,mo+j,none⟩=false
theorem iD.Sz(h:iD w mb mo s):s.l.length=19:=by simp[MS.l,h.len]
theorem iD.at(h:iD w mb mo s)(j:Nat)(hj:j<19):w.cell? ⟨mb,mo+j,none⟩=some (.int .i64 (s.l.getD j 0)):=
 h.ZN j _ (uG _ _ (by rw[h.Sz];exact hj))
theorem iD.c0(h:iD w mb mo s):w.cell? ⟨mb,mo,none⟩=some (.int .i64 s.md):=h.at 0 (by omega)
theorem iD.c1(h:iD w mb mo s):w.cell? ⟨mb,mo+1,none⟩=some (.int .i64 s.mr):=h.at 1 (by omega)
theorem iD.c2(h:iD w mb mo s):w.cell? ⟨mb,mo+2,none⟩=some (.int .i64 s.ct):=h.at 2 (by omega)
theorem iD.cp(h:iD w mb mo s)(j:Nat)(hj:j<16):w.cell? ⟨mb,mo+3+j,none⟩=some (.int .i64 (s.ps.getD j 0)):=by have:=h.at (3+j) (by omega);rw[←Nat.add_assoc]at this;rw[this];rw[show 3+j=j+3 by omega];simp[MS.l]
theorem iD.lt{w:World}{mb mo:Nat}{s:MS}(h:iD w mb mo s):mb<w.heap.size:=DT _ _ h.c0
theorem iD.there(h:iD w mb mo s):w.there mb mo 19:=fun j hj=>⟨by rw[h.at j hj];rfl,h.fr j hj⟩
theorem iD.kept{w w':World}{mb mo:Nat}{s:MS}(h:iD w mb mo s)(hb:w'.heap[mb]? =w.heap[mb]?):iD w' mb mo s:=
 ⟨h.len,fun j v hv=>(eT hb).trans (h.ZN j v hv),fun j hj=>(DN hb).trans (h.fr j hj)⟩
structure Km (mb mo:Nat) (w w':World):Prop where
 os:w'.os=w.os
 tape:w'.tape=w.tape
 output:w'.output=w.output
 size:w.heap.size≤w'.heap.size
 block:∀k,k<w.heap.size→k≠mb→w'.heap[k]? =w.heap[k]?
 cell:∀o,(o<mo∨mo+19≤o)→w'.cell? ⟨mb,o,none⟩=w.cell? ⟨mb,o,none⟩
 frozen:∀o,w'.frozen? ⟨mb,o,none⟩=w.frozen? ⟨mb,o,none⟩
theorem Km.refl(mb mo:Nat)(w:World):Km mb mo w w:=⟨rfl,rfl,rfl,bE _,fun _ _ _=>rfl,fun _ _=>rfl,fun _=>rfl⟩
theorem Km.trans{c:World}(h:Km mb mo a b)(k:Km mb mo b c):Km mb mo a c:=
 ⟨k.os.trans h.os,k.tape.trans h.tape,k.output.trans h.output,fA h.size k.size,fun i hi hn=>(k.block i (aH hi h.size) hn).trans (h.block i hi hn),fun o ho=>(k.cell o ho).trans (h.cell o ho),fun o=>(k.frozen o).trans (h.frozen o)⟩
theorem Km.of_below(h:Below w.heap.size w w')(hm:mb<w.heap.size):Km mb mo w w':=
 ⟨h.os,h.tape,h.output,h.size,fun k hk _=>h.block k hk,fun _ _=>h.cell hm,fun _=>h.frozen hm⟩
theorem Km.below(h:Km mb mo w w')(hB:B≤mb)(hm:mb≤w.heap.size):Below B w w':=
 ⟨h.os,h.tape,h.output,h.size,fun k hk=>h.block k (by omega) (by omega)⟩
theorem Km.own(h:Km mb mo w u)(hg:u.grownBy u' (some g))(hw:w.heap.size≤g)(hm:mb<w.heap.size):Km mb mo w u':=by
 have hmb:u'.heap[mb]? =u.heap[mb]? :=hg.block mb (aH hm h.size) (fun e=>by simp at e;omega)
 exact⟨hg.os.trans h.os,hg.tape.trans h.tape,hg.output.trans h.output,fA h.size hg.size,fun k hk hn=>(hg.block k (aH hk h.size) (fun e=>by simp at e;omega)).trans (h.block k hk hn),
  fun o ho=>(eT hmb).trans (h.cell o ho),fun o=>(DN hmb).trans (h.frozen o)⟩
theorem Km.alloc{mb mo:Nat}{w u:World}(h:Km mb mo w u)(o:Obj)(hm:mb<w.heap.size):Km mb mo w (u.alloc o):=
 h.trans (Km.of_below ((dF _ _).alloc (bE _) o) (aH hm h.size))
theorem Km.drewN(h:Km mb mo w u)(n:Nat):Km mb mo w (u.drewN n):=⟨h.os,h.tape,h.output,h.size,h.block,h.cell,h.frozen⟩
theorem iD.drewN(h:iD w mb mo s)(n:Nat):iD (w.drewN n) mb mo s:=h.kept rfl
theorem iD.alloc{w:World}{mb mo:Nat}{s:MS}(h:iD w mb mo s)(o:Obj):iD (w.alloc o) mb mo s:=h.kept (h_ _ _ _ h.lt)
theorem iD.own(h:iD w mb mo s)(hg:w.grownBy u' (some g))(hn:g≠mb):iD u' mb mo s:=h.kept (hg.block mb h.lt (fun e=>by simp at e;omega))
theorem fV(b:Nat):∀(vs:List Value) (o:Nat) (w:World) (k:Nat),k≠b→(w.setCells b o vs).heap[k]? =w.heap[k]?
 | [],_,_,_,_=>rfl
 |v::r,o,w,k,h=>by rw[World.setCells,fV b r (o+1) _ k h];exact yn _ _ _ _ h
theorem size_setCells(b:Nat):∀(vs:List Value) (o:Nat) (w:World),(w.setCells b o vs).heap.size=w.heap.size∧(w.setCells b o vs).os=w.os∧(w.setCells b o vs).tape=w.tape∧(w.setCells b o vs).output=w.output
 | [],_,_=>⟨rfl,rfl,rfl,rfl⟩
 |v::r,o,w=>by rw[World.setCells];obtain⟨a,b,c,d⟩:=size_setCells b r (o+1) (w.setCell ⟨b,o,none⟩ v);exact⟨a.trans (by simp[World.setCell]),b,c,d⟩
theorem UY:(prog.info? 59).map (·.size)=some 19:=by kernel_rfl
theorem vM:(prog.info? 92).map (·.size)=some 21:=by kernel_rfl
theorem jm{o:Oper}{a:Act}(u:World)(hgd:o.guard=none)(x y:Operand)(ho:o.op= .store 59 x y)(mb mo:Nat)(s s':MS)(hx:a.eval x= .pointer (some ⟨mb,mo,none⟩))(arr:Array Value)(hy:a.eval y= .agg arr)(harr:arr=aO s'.l)(hs':s'.ps.length=16)(hm:iD u mb mo s)(h:∀u',iD u' mb mo s'→Km mb mo u u'→u'.heap.size=u.heap.size→wpList prog ops Q rest (a.put o.dst undef) u'):wpList prog ops Q (o::rest) a u:=by
 have hl:s'.l.length=19:=by simp[MS.l,hs']
 subst harr;refine wpList_store_mid hgd 59 x y ho mb mo (aO s'.l) hx hy (by rw[jD,hl];exact hm.there) (by rw[jD,hl];exact UY) (EG _) ?_;have e:(aO s'.l).toList=jV s'.l:=rfl;rw[e];have hz:=size_setCells mb (jV s'.l) mo u;have hln:(jV s'.l).length=19:=by rw[qP,hl]
 refine h _ ⟨hs',World.rangeAt_setCells_same u mb mo _ (by rw[hln];exact hm.there),fun j hj=>by rw[World.frozen?_setCells];exact hm.fr j hj⟩
  ⟨hz.2.1,hz.2.2.1,hz.2.2.2,by omega,fun k _ hn=>fV mb _ _ _ k hn,fun o ho=>World.cell?_setCells_out mb _ _ _ _ (fun _ _=>by rw[hln];exact ho),fun o=>World.frozen?_setCells mb _ _ _ _⟩ hz.1
theorem cZ{o:Oper}{a:Act}(u:World)(hgd:o.guard=none)(x y:Operand)(ho:o.op= .store 92 x y)(g:Nat)(old ev:List Int)(hx:a.eval x= .pointer (some ⟨g,0,none⟩))(arr:Array Value)(hy:a.eval y= .agg arr)(harr:arr=aO ev)(hev:ev.length=21)(t:TypeId)(hg:u.heap[g]? =some (.cells (aO old) t (0,0)))(hold:old.length=21)(h:∀u',u'.heap[g]? =some (.cells (aO ev) t (0,0))→u.grownBy u' (some g)→u'.heap.size=u.heap.size→wpList prog ops Q rest (a.put o.dst undef) u'):wpList prog ops Q (o::rest) a u:=by
 subst harr;refine wpList_store_row hgd 92 x y ho g (aO ev) hx hy t (aO old) hg (by rw[jD,hev];exact vM) (by rw[jD,jD,hev,hold]) (EG _) ?_;refine h _ (setRow_heap u g _ _ t _ hg) ⟨rfl,rfl,rfl,by simp,fun k _ hk=>setRow_other u g k _ (fun e=>hk (by simp[e]))⟩ (by simp)
theorem jh{o:Oper}{a:Act}(u:World)(hgd:o.guard=none)(x:Operand)(ho:o.op= .load 92 x)(g:Nat)(ev:List Int)(hx:a.eval x= .pointer (some ⟨g,0,none⟩))(hev:ev.length=21)(t:TypeId)(fr:Nat × Nat)(hg:u.heap[g]? =some (.cells (aO ev) t fr))(h:wpList prog ops Q rest (a.put o.dst (.agg (aO ev))) u):wpList prog ops Q (o::rest) a u:=
 jb hgd 92 x ho g hx t (aO ev) fr _ hg underlying92 rfl (by rw[jD,hev];exact vM) h
theorem Il{q:Tmp}(h:fn.results= #[.cell p 92,.tmp q])(tmps:Array Value)(w:World)(g:Nat)(ev:List Int)(hev:ev.length=21)(t:TypeId)(fr:Nat × Nat)(hp:tmps.getD p undef= .pointer (some ⟨g,0,none⟩))(hg:w.heap[g]? =some (.cells (aO ev) t fr)):
 (results fn tmps).run prog w= .ok (.tuple #[.agg (aO ev),tmps.getD q undef]) w:=by
 have hp':tmps[p]?.getD undef= .pointer (some ⟨g,0,none⟩):=by simpa using hp
 simp[results,h,hp',asAddr,run_loadVar_row w g t 92 (aO ev) fr _ hg underlying92 rfl (by rw[jD,hev];exact vM)]
theorem Ff(h:fn.results= #[.cell p 92])(tmps:Array Value)(w:World)(g:Nat)(ev:List Int)(hev:ev.length=21)(t:TypeId)(fr:Nat × Nat)(hp:tmps.getD p undef= .pointer (some ⟨g,0,none⟩))(hg:w.heap[g]? =some (.cells (aO ev) t fr)):
 (results fn tmps).run prog w= .ok (.agg (aO ev)) w:=
 results_cell_row h tmps w g t (aO ev) fr _ hp hg underlying92 rfl (by rw[jD,hev];exact vM)
theorem sizeOf44(u:World):(sizeOf 92).run prog u= .ok 21 u:=by kernel_rfl
def Kv (w:World) (base:Nat) (v:Value) (E:List (List Int)):Prop:=w.ownsRow base 92 21 v E.length (jV E.flatten)
theorem Kv.below(h:Kv w base v E)(hb:Below w.heap.size w w'):Kv w' base v E:=
 Jl (row:=none) h ⟨hb.os,hb.tape,hb.output,hb.size,fun k hk _=>hb.block k hk⟩ (by cases hv:v.ownBlock<;>simp)
theorem Kv.mono{B':Nat}(h:Kv w B v E)(hB:B'≤B):Kv w B' v E:=by
 obtain⟨h1,h2⟩:=h;refine⟨h1,?_⟩;rcases h2 with h2|⟨g,cap,cur,hv,hg,r⟩
 ·exact Or.inl h2
 ·exact Or.inr ⟨g,cap,cur,hv,fA hB hg,r⟩
def iR (p:fO):List Value:=[.bool p.b,.bool p.u,.bool p.t,.int .i64 p.f,.int .i64 p.k]
def gI (p:fO):Array Value:=(iR p).toArray
def cellV (c:aC):List Value:=[.int .i64 c.r,.bool c.p.b,.bool c.p.u,.bool c.p.t,.int .i64 c.p.f,.int .i64 c.p.k,.int .i64 c.part]
def bO (c:aC):Array Value:=(cellV c).toArray
def iw:List aC→List Value
 | []=>[]
 |c::r=>cellV c++iw r
def zx (r:List aC):Array Value:=(iw r).toArray
theorem cK(c:aC):(cellV c).length=7:=rfl
theorem pI(c:aC):(bO c).size=7:=rfl
theorem gF(c:aC):∀v∈cellV c,v.oneCell'=true:=by intro v hv;simp only[cellV,di,eU,eX]at hv;rcases hv with rfl|rfl|rfl|rfl|rfl|rfl|rfl<;>rfl
theorem KR(c:aC):(bO c).all (·.oneCell')=true:=all_oneCell_toArray (gF c)
theorem bP:∀r:List aC,(iw r).length=r.length*7
 | []=>rfl
 |c::r=>by rw[iw,lQ,bP r,cK,fB];omega
theorem LW(r:List aC):(zx r).size=r.length*7:=by simp[zx,bP]
theorem rf:∀a b:List aC,iw (a++b)=iw a++iw b
 | [],b=>rfl
 |c::a,b=>by simp[iw,rf a b]
theorem Fj:∀r:List aC,∀v∈iw r,v.oneCell'=true
 | [],v,h=>by simp[iw]at h
 |c::r,v,h=>by
  rcases oq.1 h with h|h
  ·exact gF c v h
  ·exact Fj r v h
theorem vS:∀(r:List aC) (k:Nat),(iw r).take (k*7)=iw (r.take k)
 | [],k=>by simp[iw]
 |c::r,0=>by simp[iw]
 |c::r,k+1=>by rw[List.take_succ_cons,iw,iw,List.take_append,cK, ←vS r k,show(k+1)*7-7=k*7 by omega,sG (by rw[cK];omega)]
theorem rT:∀(r:List aC) (k:Nat),(iw r).drop (k*7)=iw (r.drop k)
 | [],k=>by simp[iw]
 |c::r,0=>by simp[iw]
 |c::r,k+1=>by rw[List.drop_succ_cons,iw,List.drop_append,cK, ←rT r k,show(k+1)*7-7=k*7 by omega,yj (by rw[cK];omega)];rfl
theorem Ru(r:List aC)(k:Nat)(c:aC)(h:r[k]? =some c):((iw r).drop (k*7)).take 7=cellV c:=by have hk:=(ja.1 h);obtain⟨hk,hc⟩:=hk;rw[rT, ←List.getElem_cons_drop hk,iw,hc];simp[cellV]
def aK (w:World) (g:Nat) (r:List aC):Prop:=w.heap[g]? =some (.cells (zx r) 104 (0,0))
theorem aK.kept{w w':World}{g:Nat}{r:List aC}(h:aK w g r)(hb:w'.heap[g]? =w.heap[g]?):aK w' g r:=hb.trans h
theorem aK.lt{w:World}{g:Nat}{r:List aC}(h:aK w g r):g<w.heap.size:=by
 by_cases hl:g<w.heap.size
 ·exact hl
 ·unfold aK at h;rw[qh (by omega)]at h;cases h
theorem aK.cell{w:World}{g:Nat}{r:List aC}(h:aK w g r)(i:Nat):w.cell? ⟨g,i,none⟩=(iw r)[i]? :=by rw[dJ _ _ _ _ _ _ h];simp[zx]
theorem aK.range(h:aK w g r){c:aC}(hk:r[k]? =some c):w.rangeAt g (k*7) (cellV c):=by intro j v hv;rw[h.cell, ←hv, ←Ru r k c hk,qA,aS (by rw[←cK c];exact(ja.1 hv).1),qC]
theorem aK.there(h:aK w g r){n:Nat}(hk:k*7+n≤r.length*7):w.there g (k*7) n:=fun j hj=>⟨by rw[h.cell,gK (by rw[bP];omega)];rfl,ou _ _ _ _ _ h⟩
structure Ch (P:Nat→Prop) (w w':World):Prop where
 os:w'.os=w.os
 tape:w'.tape=w.tape
 output:w'.output=w.output
 size:w.heap.size≤w'.heap.size
 block:∀k,k<w.heap.size→¬P k→w'.heap[k]? =w.heap[k]?
theorem Ch.refl(P:Nat→Prop)(w:World):Ch P w w:=⟨rfl,rfl,rfl,bE _,fun _ _ _=>rfl⟩
theorem Ch.trans{c:World}(h:Ch P a b)(k:Ch P b c):Ch P a c:=
 ⟨k.os.trans h.os,k.tape.trans h.tape,k.output.trans h.output,fA h.size k.size,fun i hi hn=>(k.block i (aH hi h.size) hn).trans (h.block i hi hn)⟩
theorem Ch.mono(h:Ch P a b)(hi:∀k,k<a.heap.size→P k→R k):Ch R a b:=
 ⟨h.os,h.tape,h.output,h.size,fun k hk hn=>h.block k hk (fun hp=>hn (hi k hk hp))⟩
theorem Ch.trans'{c:World}(h:Ch P a b)(k:Ch R b c)(hi:∀k,k<a.heap.size→R k→P k):Ch P a c:=
 ⟨k.os.trans h.os,k.tape.trans h.tape,k.output.trans h.output,fA h.size k.size,fun i hl hn=>(k.block i (aH hl h.size) (fun hr=>hn (hi i hl hr))).trans (h.block i hl hn)⟩
theorem Ch.of_below(h:Below w.heap.size w w'):Ch P w w':=⟨h.os,h.tape,h.output,h.size,fun k hk _=>h.block k hk⟩
theorem Ch.below(h:Ch P w w')(hB:B≤w.heap.size)(hP:∀k,k<B→¬P k):Below B w w':=⟨h.os,h.tape,h.output,h.size,fun k hk=>h.block k (by omega) (hP k hk)⟩
theorem Ch.alloc{P:Nat→Prop}{w u:World}(h:Ch P w u)(o:Obj):Ch P w (u.alloc o):=h.trans (Ch.of_below ((dF _ _).alloc (bE _) o))
theorem Ch.drewN(h:Ch P w u)(n:Nat):Ch P w (u.drewN n):=⟨h.os,h.tape,h.output,h.size,h.block⟩
theorem Ch.drew(h:Ch P w u):Ch P w u.drew:=⟨h.os,h.tape,h.output,h.size,h.block⟩
theorem Ch.set(h:Ch P w u)(g o:Nat)(v:Value)(hg:g<w.heap.size→P g):Ch P w (u.setCell ⟨g,o,none⟩ v):=
 h.trans' (R:=(· =g)) ⟨rfl,rfl,rfl,by simp[World.setCell],fun k _ hn=>yn _ _ _ _ hn⟩ (fun k hk e=>e▸hg (e▸hk))
theorem Ch.row(h:Ch P w w')(hr:aK w g r)(hn:¬P g):aK w' g r:=hr.kept (h.block g hr.lt hn)
theorem og(b:Nat):∀(vs:List Value) (o:Nat) (w:World) (cs:Array Value) (t:TypeId),w.heap[b]? =some (.cells cs t (0,0))→
 ∃cs',(w.setCells b o vs).heap[b]? =some (.cells cs' t (0,0))∧cs'.size=cs.size∧∀i,cs'[i]? =if o≤i∧i<o+vs.length∧i<cs.size then vs[i-o]? else cs[i]?
 | [],o,w,cs,t,h=>⟨cs,h,rfl,fun i=>by rw[aG (by simp;omega)]⟩
 |v::r,o,w,cs,t,h=>by
  obtain⟨cs',h1,h2,h3⟩:=og b r (o+1) _ _ t (wS w b o cs t v h);refine⟨cs',h1,by rw[h2];simp,fun i=>?_⟩;rw[h3];simp only[fB,Array.size_setIfInBounds];by_cases hi:i=o
  ·subst hi;rw[aG (by omega)];by_cases hc:i<cs.size
   ·rw[aS (by omega)];simp[hc]
   ·rw[aG (by omega),qh (by omega:cs.size≤i),qh (by simp;omega)]
  ·by_cases hc:o+1≤i∧i<o+1+r.length∧i<cs.size
   ·rw[aS hc,aS (by omega),show i-o=(i-(o+1))+1 by omega,R4]
   ·rw[aG hc,aG (by omega),Array.getElem?_setIfInBounds,aG (by omega)]
theorem eF:(prog.info? 104).map (·.size)=some 7:=by kernel_rfl
theorem Kh(h:aK w g r)(k:Nat)(q:List aC)(hk:k+q.length≤r.length):aK (w.setCells g (k*7) (iw q)) g (gY r k q):=by
 obtain⟨cs',q1,q2,q3⟩:=og g (iw q) (k*7) w (zx r) 104 h;unfold aK;rw[q1]
 congr 2
 apply Array.ext_getElem?;intro i;rw[q3,LW,bP,zx,zx,AA,AA,gY,rf,rf, ←vS, ←rT];by_cases hi:k*7≤i∧i<k*7+q.length*7∧i<r.length*7
 ·rw[aS hi,wP (by rw[jJ,bP];omega),jJ,bP,show min (k*7) (r.length*7)=k*7 by omega,DK (by rw[bP];omega)]
 ·rw[aG hi];by_cases h1:i<k*7
  ·rw[DK (by rw[jJ,bP];omega),qA,aS h1]
  ·rw[wP (by rw[jJ,bP];omega),jJ,bP,show min (k*7) (r.length*7)=k*7 by omega];by_cases h2:i<k*7+q.length*7
   ·omega
   ·rw[wP (by rw[bP];omega),qC,bP,show(k+q.length)*7+(i-k*7-q.length*7)=i by omega]
theorem OM(r:List aC)(k:Nat)(c:aC)(hk:k<r.length):gY r k [c]=r.set k c:=by rw[List.set_eq_take_append_cons_drop,aS hk];rfl
theorem zQ{o:Oper}{a:Act}(u:World)(hgd:o.guard=none)(x:Operand)(ho:o.op= .load 104 x)(g off k:Nat)(r:List aC)(c:aC)(hx:a.eval x= .pointer (some ⟨g,off,none⟩))(hoff:off=k*7)(hg:aK u g r)(hc:r[k]? =some c)(h:wpList prog ops Q rest (a.put o.dst (.agg (bO c))) u):wpList prog ops Q (o::rest) a u:=by
 subst hoff;exact wpList_load_mid hgd 104 x ho g (k*7) hx (cellV c) _ (hg.range hc) underlying104 rfl (by rw[cK];exact eF) h
theorem pq{o:Oper}{a:Act}(u:World)(hgd:o.guard=none)(x y:Operand)(ho:o.op= .store 104 x y)(g off k:Nat)(r:List aC)(c:aC)(hx:a.eval x= .pointer (some ⟨g,off,none⟩))(hoff:off=k*7)(arr:Array Value)(hy:a.eval y= .agg arr)(harr:arr=bO c)(hg:aK u g r)(hk:k<r.length)(h:∀u',aK u' g (r.set k c)→Ch (· =g) u u'→u'.heap.size=u.heap.size→wpList prog ops Q rest (a.put o.dst undef) u'):wpList prog ops Q (o::rest) a u:=by
 subst hoff harr;refine wpList_store_mid hgd 104 x y ho g (k*7) (bO c) hx hy (hg.there (by rw[pI];omega)) (by rw[pI];exact eF) (KR _) ?_;have hl:=Kh hg k [c] (by simp;omega);rw[OM _ _ _ hk]at hl;have hz:=size_setCells g (cellV c) (k*7) u;exact h _ (by simpa[iw,bO]using hl) ⟨hz.2.1,hz.2.2.1,hz.2.2.2,by rw[show(bO c).toList=cellV c from rfl];omega,fun i _ hn=>fV g _ _ _ i hn⟩ hz.1
structure Kl (v v':Value) (rb ro:Nat) (w w':World):Prop where
 os:w'.os=w.os
 tape:w'.tape=w.tape
 output:w'.output=w.output
 size:w.heap.size≤w'.heap.size
 block:∀k,k<w.heap.size→k≠rb→v.ownBlock≠some k→w'.heap[k]? =w.heap[k]?
 cell:∀o,(o<ro∨ro+4≤o)→w'.cell? ⟨rb,o,none⟩=w.cell? ⟨rb,o,none⟩
 frozen:∀o,w'.frozen? ⟨rb,o,none⟩=w.frozen? ⟨rb,o,none⟩
 own:∀k,v'.ownBlock=some k→v.ownBlock=some k∨w.heap.size≤k
theorem Kl.refl(v:Value)(rb ro:Nat)(w:World):Kl v v rb ro w w:=⟨rfl,rfl,rfl,bE _,fun _ _ _ _=>rfl,fun _ _=>rfl,fun _=>rfl,fun _ h=>.inl h⟩
theorem Kl.trans{v1 v2:Value}{c:World}(h:Kl v v1 rb ro a b)(k:Kl v1 v2 rb ro b c):Kl v v2 rb ro a c:=
 ⟨k.os.trans h.os,k.tape.trans h.tape,k.output.trans h.output,fA h.size k.size,fun i hi hn hv=>(k.block i (aH hi h.size) hn (fun e=>by rcases h.own i e with q|q;exact hv q;omega)).trans (h.block i hi hn hv),
  fun o ho=>(k.cell o ho).trans (h.cell o ho),fun o=>(k.frozen o).trans (h.frozen o),fun i hi=>by
   rcases k.own i hi with q|q
   ·exact h.own i q
   ·exact .inr (fA h.size q)⟩
theorem Kl.eP(v:Value)(w:World)(s:RS):Kl v v rb ro w (World.eP w rb ro s):=by have k:=zC (base:=w.heap.size) (rb:=rb) (ro:=ro) w s;exact⟨k.os,k.tape,k.output,k.size,fun i hi hn _=>k.block i hi hn,k.cell,k.frozen,fun _ h=>.inl h⟩
theorem Kl.below(h:Below w.heap.size w w')(hr:rb<w.heap.size):Kl v v rb ro w w':=⟨h.os,h.tape,h.output,h.size,fun i hi _ _=>h.block i hi,fun _ _=>h.cell hr,fun _=>h.frozen hr,fun _ h=>.inl h⟩
theorem Kl.grown{w1:World}(h:u.grownBy w1 v.ownBlock)(ho:∀k,v'.ownBlock=some k→v.ownBlock=some k∨u.heap.size≤k)(hne:v.ownBlock≠some rb)(hr:rb<u.heap.size):Kl v v' rb ro u w1:=by have hb:w1.heap[rb]? =u.heap[rb]? :=h.block rb hr (fun e=>hne e.symm);exact⟨h.os,h.tape,h.output,h.size,fun i hi _ hv=>h.block i hi (fun e=>hv e.symm),fun _ _=>eT hb,fun _=>DN hb,ho⟩
theorem pQ{c:World}{row:Option Nat}(h:a.grownBy b row)(k:b.grownBy c row):a.grownBy c row:=⟨k.os.trans h.os,k.tape.trans h.tape,k.output.trans h.output,fA h.size k.size,fun i hi hn=>(k.block i (aH hi h.size) hn).trans (h.block i hi hn)⟩
theorem vv{o:Oper}{a:Act}(u:World)(hgd:o.guard=none)(s x:Operand)(ho:o.op= .call {callee:=.builtin .append,args:=#[s,x],argTypes:=#[68,68]})(base:Nat)(v:Value)(L:List Int)(y:Int)(hs:a.eval s=v)(own:eu u base v L)(g:Nat)(hg:g=u.heap.size)(hx:a.eval x= .slice (some ⟨g,0,none⟩) 1 1)(hL:L.length≤1000000000)(hb:base≤u.heap.size)(h:∀v' w',eu w' base v' (L++[y])→Below base u w'→u.grownBy w' v.ownBlock→(∀k,v'.ownBlock=some k→v.ownBlock=some k∨u.heap.size≤k)→wpList prog ops Q rest (a.put o.dst v') w'):wpList prog ops Q (o::rest) a (u.alloc (.cells #[.int .i64 y] 3)):=by
 obtain⟨i0,hi,hz0,hz1,hz2⟩:=info_parts info3;subst hg;refine rM _ hgd s x 68 ho base 3 i0 (.int .i64 0) 1 8 underlying68 hi hz0 hz1 hz2 rfl v _ _ hs (M5 own _) ⟨u.heap.size,0,none⟩ 1 1 [.int .i64 y] hx rfl (cell_one_new _ _ _) ?_ (by omega) ?_ ?_ ?_ ?_
 ·intro z hz;simp at hz;subst hz;rfl
 ·unfold maxLen;omega
 ·omega
 ·simp;omega
 ·intro v' w' hown hgrow hor _;have hg2:u.grownBy w' v.ownBlock:=pQ (World.grownBy_alloc u _ _) hgrow;refine h v' w' (eu.one hown) ?_ hg2 (fun k hk=>?_)
  ·refine((dF base u).alloc hb _).grown hgrow (by simp;omega) ?_;intro k hk;exact((Jn own) k hk).1
  ·rcases hor with q|⟨k',q1,q2⟩
   ·exact .inl (q▸hk)
   ·rw[q1]at hk;cases hk;exact .inr (by simp at q2;omega)
theorem own_ne(own:eu w base v L)(h:rb<base):v.ownBlock≠some rb:=fun e=>by have:=((Jn own) rb e).1;omega
theorem jK.kl(h:jK w)(k:Kl v v' rb ro w w')(hr:0≠rb)(hv:v.ownBlock≠some 0)(hs:0<w.heap.size):jK w':=h.kept (k.block 0 hs hr hv)
theorem KW(base rb ro:Nat)(s:RS)(v:Value)(L:List Int)(w:World)(rd:jc w rb ro s)(hm:(s.m==0)=false)(own:eu w base v L)(hL:L.length≤1000000000)(hrb:rb<base)(hb:base≤w.heap.size):
 Calls prog 73 #[.pointer (some ⟨rb,ro,none⟩),v] w fun e w'=>∃v',e= .returned v'∧eu w' base v' (L++[65533])∧jc w' rb ro .zero∧Kl v v' rb ro w w':=by
 have c0:=rd.c0;have c1:=rd.c1;have c2:=rd.c2;have c3:=rd.c3;have f0:=rd.f 0 (by omega);have f1:=rd.f 1 (by omega);have f2:=rd.f 2 (by omega);have f3:=rd.f 3 (by omega);simp only[wT]at f0;go_enter func73,ntmps73;go_wp2_with (at_builtin;refine vv (World.eP w rb ro .zero) rfl _ _ rfl base _ L _ rfl ?c1 _ ?c2 rfl hL ?c3 ?_)
 case c1=>exact eu.eP own hrb .zero
 case c2=>simp[World.eP]
 case c3=>simpa[World.eP]using hb
 intro v' w1 qU hbel hgr hown;have LM:jc w1 rb ro .zero:=(u_ rd .zero).kept (hbel.block rb hrb);have k1:Kl v v' rb ro w w1:=(Kl.eP v w .zero).trans (Kl.grown hgr hown (own_ne own hrb) (by simp[World.eP];omega));clear c0 c1 c2 c3 f0 f1 f2 f3;go_wp2_with fail;go_ret;exact⟨_,rfl,qU,LM,k1⟩
theorem Hu(base rb ro:Nat)(s:RS)(b:Int)(v:Value)(L:List Int)(w:World)(rd:jc w rb ro s)(hm:(s.m==1)=true)(hv:0≤s.val)(hv':s.val<32768)(hb0:0≤b)(hb1:b<256)(own:eu w base v L)(hL:L.length≤1000000000)(hrb:rb<base)(hb:base≤w.heap.size):
 Calls prog 74 #[.pointer (some ⟨rb,ro,none⟩),v,.int .u8 b] w fun e w'=>∃v',e= .returned v'∧eu w' base v' (L++[s.val*64+b % 64])∧jc w' rb ro .zero∧Kl v v' rb ro w w':=by
 have YX:=AZ s.val (b % 64) hv (by omega) (by omega) (by omega);have c0:=rd.c0;have c1:=rd.c1;have c2:=rd.c2;have c3:=rd.c3;have f0:=rd.f 0 (by omega);have f1:=rd.f 1 (by omega);have f2:=rd.f 2 (by omega);have f3:=rd.f 3 (by omega);simp only[wT]at f0;go_enter func74,ntmps74;go_wp2_with (at_builtin;refine vv (World.eP w rb ro .zero) rfl _ _ rfl base _ L _ rfl ?c1 _ ?c2 rfl hL ?c3 ?_)
 case c1=>exact eu.eP own hrb .zero
 case c2=>simp[World.eP]
 case c3=>simpa[World.eP]using hb
 intro v' w1 qU hbel hgr hown;have LM:jc w1 rb ro .zero:=(u_ rd .zero).kept (hbel.block rb hrb);have k1:Kl v v' rb ro w w1:=(Kl.eP v w .zero).trans (Kl.grown hgr hown (own_ne own hrb) (by simp[World.eP];omega));clear c0 c1 c2 c3 f0 f1 f2 f3;go_wp2_with fail;go_ret;exact⟨_,rfl,qU,LM,k1⟩
theorem Lf(base rb ro:Nat)(s:RS)(b:Int)(v:Value)(L:List Int)(w:World)(rd:jc w rb ro s)(hs:s.ok)(hm:s.m≠0)(hb0:0≤b)(hb1:b<256)(own:eu w base v L)(hL:L.length≤1000000000)(hrb:rb<base)(hb:base≤w.heap.size):
 Calls prog 74 #[.pointer (some ⟨rb,ro,none⟩),v,.int .u8 b] w fun e w'=>∃v',e= .returned v'∧eu w' base v' (L++(s.join b).2)∧jc w' rb ro (s.join b).1∧Kl v v' rb ro w w':=by
 obtain⟨a1,a2,a3,a4,a5,a6⟩:=hs;by_cases h1:s.m=1
 ·have e:s.join b=(.zero,[s.val*64+b % 64]):=by simp[RS.join,h1]
  rw[e];exact Hu base rb ro s b v L w rd (by simp[h1]) a3 (a4 h1) hb0 hb1 own hL hrb hb
 ·have e:s.join b=(⟨s.m-1,128,191,s.val*64+b % 64⟩,[]):=by simp[RS.join,h1]
  rw[e];refine(Rc rb ro s b v w rd (by simp[h1]) a1 a2 a3 (by omega) hb0 hb1).mono ?_;rintro e w' ⟨rfl,rfl⟩;exact⟨v,rfl,by simpa using eu.eP own hrb _,u_ rd _,Kl.eP v w _⟩
theorem Eo(base rb ro:Nat)(s:RS)(v:Value)(L:List Int)(w:World)(rd:jc w rb ro s)(own:eu w base v L)(hL:L.length≤1000000000)(hrb:rb<base)(hb:base≤w.heap.size):
 Calls prog 73 #[.pointer (some ⟨rb,ro,none⟩),v] w fun e w'=>∃v',e= .returned v'∧eu w' base v' (L++s.fin.2)∧jc w' rb ro s.fin.1∧Kl v v' rb ro w w':=by
 by_cases h:s.m=0
 ·have e:s.fin=(s,[]):=by simp[RS.fin,h]
  rw[e];refine(Oh rb ro s v w rd (by simp[h])).mono ?_;rintro e w' ⟨rfl,rfl⟩;exact⟨v,rfl,by simpa using own,rd,Kl.refl _ _ _ _⟩
 ·have e:s.fin=(.zero,[65533]):=by simp[RS.fin,h]
  rw[e];exact KW base rb ro s v L w rd (by simp[h]) own hL hrb hb
theorem NV(base rb ro:Nat)(b:Int)(v:Value)(L:List Int)(w:World)(hb0:0≤b)(hb1:b<128)(own:eu w base v L)(hL:L.length≤1000000000)(hb:base≤w.heap.size)(hrb:rb<base):
 Calls prog 72 #[.pointer (some ⟨rb,ro,none⟩),v,.int .u8 b] w fun e w'=>∃v',e= .returned v'∧eu w' base v' (L++[b])∧Below base w w'∧Kl v v' rb ro w w':=by
 go_enter func72,ntmps72;go_wp2_with (at_builtin;refine vv w rfl _ _ rfl base _ L _ rfl ?c1 _ ?c2 rfl hL ?c3 ?_)
 case c1=>exact own
 case c2=>rfl
 case c3=>exact hb
 intro v' w1 qU hbel hgr hown;go_wp2_with fail;go_ret;exact⟨_,rfl,qU,hbel,Kl.grown hgr hown (own_ne own hrb) (by omega)⟩
theorem IC{wr:World}{s0:RS}(o:Obj)(s:RS)(own:eu wr base v L)(rd:jc wr rb ro s0)(hbel:Below w.heap.size w wr)(hb0:base≤w.heap.size)(hrb:rb<base)(hb:base≤wr.heap.size):
 eu ((World.eP wr rb ro s).alloc o) base v L∧jc ((World.eP wr rb ro s).alloc o) rb ro s∧Kl v v rb ro w ((World.eP wr rb ro s).alloc o):=by
 obtain⟨h1,h2,_⟩:=Me (w:=w) o s own rd (hbel.mono hb0) hrb hb;refine⟨h1,h2,((Kl.below hbel (by omega)).trans (Kl.eP v wr s)).trans (Kl.below ((dF _ _).alloc (bE _) o) ?_)⟩;have:=(Kl.eP v (rb:=rb) (ro:=ro) wr s).size;omega
theorem KM(base rb ro:Nat)(s:RS)(b:Int)(v:Value)(L:List Int)(w:World)(rd:jc w rb ro s)(hb0:128≤b)(hb1:b<256)(hle:jK w)(hrb:rb<base)(own:eu w base v L)(hL:L.length≤1000000000)(hb:base≤w.heap.size):
 Calls prog 72 #[.pointer (some ⟨rb,ro,none⟩),v,.int .u8 b] w fun e w'=>∃v',e= .returned v'∧eu w' base v' (L++(s.sw b).2)∧jc w' rb ro (s.sw b).1∧Kl v v' rb ro w w':=by
 obtain⟨lt,Zg,qN⟩:=hle;have HL:Hid _:=qN;clear qN;have hd:decide (b<128)=false:=by simp;omega
 go_enter func72,ntmps72;go_wp2_with (refine jb rfl 190 _ rfl 0 rfl lt eZ Zg _ HL.o underlying190 rfl UZ ?_);go_loopw [17] (fun i wr=>∃k:Nat,k≤8∧i= .int .i64 k∧Below w.heap.size w wr∧SB k b) (fun i _=>8-(intOf i).toNat)
 case atStart=>exact⟨0,jy _,rfl,dF _ _,by unfold SB;simp;omega⟩
 case round=>
  obtain⟨k,hk,rfl,hbel,hno⟩:=hrel;by_cases hlt:k<8
  ·obtain⟨f,l,mk,mo,lo,hi,q,hidx,hq,hq0,hq1,hhit,hm1,hm2⟩:=ZR k hlt b hb0 hb1 hno;have aa9:Hid _:=hhit;have Hm1:Hid _:=hm1;have Hm2:Hid _:=hm2;clear hhit hm1 hm2;have rd':jc wr rb ro s:=rd.kept (hbel.block rb (by omega));have own':eu wr base v L:=own.below hbel;have c0:=rd'.c0;have c1:=rd'.c1;have c2:=rd'.c2;have c3:=rd'.c3;have f0:=rd'.f 0 (by omega);have f1:=rd'.f 1 (by omega);have f2:=rd'.f 2 (by omega);have f3:=rd'.f 3 (by omega);simp only[wT]at f0;have hsz:rb<wr.heap.size:=by have:=hbel.size;omega
   go_wp2_with fail
   ·have hf:f≤b:=by assumption
    have hl:b≤l:=by assumption
    have e:s.sw b=(⟨mo,lo,hi,q⟩,[]):=by simp[RS.sw,aa9.o hf hl,show¬b<128 by omega]
    have R:=IC (.cells #[.int .u8 f,.int .u8 l,.int .u8 mk,.int .i64 mo,.int .u8 lo,.int .u8 hi] 189) ⟨mo,lo,hi,q⟩ own' rd' hbel hb hrb (by have:=hbel.size;omega);clear c0 c1 c2 c3 f0 f1 f2 f3;go_ret;rw[e];exact⟨v,rfl,by rw[Av];exact R.1,R.2.1,R.2.2⟩
   ·have hl:l<b:=by assumption
    go_roundw
    case rel=>exact⟨k+1,by omega,by go_num,hbel.alloc hbel.size _,Hm2.o hl⟩
    case measure=>simp[intOf];omega
   ·have hl:b<f:=by have h:¬f≤b:=by assumption
                    omega
    go_roundw
    case rel=>exact⟨k+1,by omega,by go_num,hbel.alloc hbel.size _,Hm1.o hl⟩
    case measure=>simp[intOf];omega
  ·have Y4:k=8:=by omega
   subst Y4;have own':eu wr base v L:=own.below hbel;have rd':jc wr rb ro s:=rd.kept (hbel.block rb (by omega));have e:s.sw b=(s,[65533]):=by simp[RS.sw,Rp b hno,show¬b<128 by omega]
   have He:Hid _:=e;clear e;go_wp2_with (at_builtin;refine vv wr rfl _ _ rfl base _ L _ rfl ?c1 _ ?c2 rfl hL ?c3 ?_)
   case c1=>exact own'
   case c2=>rfl
   case c3=>have:=hbel.size;omega
   intro v' w1 qU YW hgr hown;have LM:jc w1 rb ro s:=rd'.kept (YW.block rb hrb);have k1:Kl v v' rb ro w w1:=(Kl.below hbel (by omega)).trans (Kl.grown hgr hown (own_ne own' hrb) (by have:=hbel.size;omega));go_wp2_with fail;go_ret;rw[He.o];exact⟨_,rfl,qU,LM,k1⟩
theorem yF(base rb ro:Nat)(s:RS)(b:Int)(v:Value)(L:List Int)(w:World)(rd:jc w rb ro s)(hb0:0≤b)(hb1:b<256)(hle:jK w)(hrb:rb<base)(own:eu w base v L)(hL:L.length≤1000000000)(hb:base≤w.heap.size):
 Calls prog 72 #[.pointer (some ⟨rb,ro,none⟩),v,.int .u8 b] w fun e w'=>∃v',e= .returned v'∧eu w' base v' (L++(s.sw b).2)∧jc w' rb ro (s.sw b).1∧Kl v v' rb ro w w':=by
 by_cases h:b<128
 ·refine(NV base rb ro b v L w hb0 h own hL hb hrb).mono ?_;rintro e w' ⟨v',rfl,qU,hbel,kl⟩;have e:s.sw b=(s,[b]):=by simp[RS.sw,h]
  rw[e];exact⟨v',rfl,qU,rd.kept (hbel.block rb hrb),kl⟩
 ·exact KM base rb ro s b v L w rd (by omega) hb1 hle hrb own hL hb
theorem MC(base rb ro:Nat)(s:RS)(b:Int)(v:Value)(L:List Int)(w:World)(rd:jc w rb ro s)(hs:s.ok)(hb0:0≤b)(hb1:b<256)(hle:jK w)(hr1:1<rb)(hrb:rb<base)(own:eu w base v L)(hL:L.length≤900000000)(hb:base≤w.heap.size):
 Calls prog 39 #[.pointer (some ⟨rb,ro,none⟩),v,.int .u8 b] w fun e w'=>∃v',e= .returned v'∧eu w' base v' (L++(s.take b).2)∧jc w' rb ro (s.take b).1∧Kl v v' rb ro w w':=by
 have c0:=rd.c0;have c1:=rd.c1;have c2:=rd.c2;by_cases hm:s.m=0
 ·have e:s.take b=s.sw b:=by simp[RS.take,hm]
  rw[e];have hm':(s.m==0)=true:=by simp[hm]
  clear e hm;go_enter func39,ntmps39;go_wp2_with (go_at_call 72;refine(yF base rb ro s b v L _ rd hb0 hb1 hle hrb own (by omega) hb).mono ?_;rintro e w1 ⟨v1,rfl,qU,LM,k1⟩);go_ret;exact⟨v1,rfl,qU,LM,k1⟩
 ·have hm':(s.m==0)=false:=by simp[hm]
  by_cases hlo:b<s.lo∨s.hi<b
  ·have e:s.take b=((s.fin.1.sw b).1,s.fin.2++(s.fin.1.sw b).2):=by simp[RS.take,hm,hlo]
   have hfl:(L++s.fin.2).length≤1000000000:=by
    have:s.fin.2.length≤1:=by unfold RS.fin;split<;>simp
    simp;omega
   rw[e];clear e hm;by_cases hlo1:b<s.lo
   ·clear hlo;go_enter func39,ntmps39;go_wp2_with fail;refine(Eo base rb ro s v L _ rd own (by omega) hrb hb).mono ?_;rintro e w1 ⟨v1,rfl,qU,LM,k1⟩;have hb':base≤w1.heap.size:=by have:=k1.size;omega
    have hle1:jK w1:=hle.kl k1 (by omega) (own_ne own (by omega)) (by omega);go_wp2_with fail;refine(yF base rb ro s.fin.1 b v1 (L++s.fin.2) _ LM hb0 hb1 hle1 hrb qU hfl hb').mono ?_;rintro e w2 ⟨v2,rfl,kU,rd2,k2⟩;go_wp2_with fail;go_ret;exact⟨v2,rfl,by simpa using kU,rd2,k1.trans k2⟩
   ·have hhi:s.hi<b:=by omega
    clear hlo;go_enter func39,ntmps39;go_wp2_with fail;refine(Eo base rb ro s v L _ rd own (by omega) hrb hb).mono ?_;rintro e w1 ⟨v1,rfl,qU,LM,k1⟩;have hb':base≤w1.heap.size:=by have:=k1.size;omega
    have hle1:jK w1:=hle.kl k1 (by omega) (own_ne own (by omega)) (by omega);go_wp2_with fail;refine(yF base rb ro s.fin.1 b v1 (L++s.fin.2) _ LM hb0 hb1 hle1 hrb qU hfl hb').mono ?_;rintro e w2 ⟨v2,rfl,kU,rd2,k2⟩;go_wp2_with fail;go_ret;exact⟨v2,rfl,by simpa using kU,rd2,k1.trans k2⟩
  ·have e:s.take b=s.join b:=by simp only[RS.take,hm,hlo,if_false]
   rw[e];have h1:¬b<s.lo:=by omega
   have h2:¬s.hi<b:=by omega
   clear e hlo;have Hm:Hid (s.m≠0):=hm;clear hm;go_enter func39,ntmps39;go_wp2_with fail;refine(Lf base rb ro s b v L _ rd hs Hm.o hb0 hb1 own (by omega) hrb hb).mono ?_;rintro e w1 ⟨v1,rfl,qU,LM,k1⟩;go_wp2_with fail;go_ret;exact⟨v1,rfl,qU,LM,k1⟩
theorem KZ(c:Int)(w:World):Calls prog 120 #[.int .i64 c] w fun e w'=>e= .returned (.bool (iF c))∧w=w':=by
 by_cases c1:64≤c
 ·by_cases c2:c≤126
  ·have e:iF c=true:=by simp[iF,c1,c2]
   rw[e];clear e;go_enter func120,ntmps120;go_wp2;go_ret;exact⟨rfl,rfl⟩
  ·have e:iF c=false:=by simp[iF,c2]
   have d2:decide (c≤126)=false:=by simp[c2]
   rw[e];clear e;go_enter func120,ntmps120;go_wp2;go_ret;exact⟨rfl,rfl⟩
 ·have e:iF c=false:=by simp[iF,c1]
  have d2:decide (64≤c)=false:=by simp[c1]
  rw[e];clear e;go_enter func120,ntmps120;go_wp2;go_ret;exact⟨rfl,rfl⟩
theorem uB(c:Int)(t:Bool)(w:World)(h:iF c=t):Calls prog 120 #[.int .i64 c] w fun e w'=>e= .returned (.bool t)∧w=w':=h▸KZ c w
theorem Lp(c:Int)(w:World):Calls prog 118 #[.int .i64 c] w fun e w'=>e= .returned (.bool (lJ c))∧w=w':=by
 by_cases h0:c=63
 ·have e:lJ c=true:=by simp[lJ,h0]
  rw[e];clear e;subst h0;go_enter func118,ntmps118;go_wp2;go_ret;exact⟨rfl,rfl⟩
 ·by_cases h1:c=62
  ·have e:lJ c=true:=by simp[lJ,h1]
   rw[e];clear e;subst h1;clear h0;go_enter func118,ntmps118;go_wp2;go_ret;exact⟨rfl,rfl⟩
  ·by_cases h2:c=61
   ·have e:lJ c=true:=by simp[lJ,h2]
    rw[e];clear e;subst h2;clear h0 h1;go_enter func118,ntmps118;go_wp2;go_ret;exact⟨rfl,rfl⟩
   ·by_cases h3:c=60
    ·have e:lJ c=true:=by simp[lJ,h3]
     rw[e];clear e;subst h3;clear h0 h1 h2;go_enter func118,ntmps118;go_wp2;go_ret;exact⟨rfl,rfl⟩
    ·have e:lJ c=false:=by simp[lJ,h0,h1,h2,h3]
     have b0:(c==63)=false:=by simp[h0]
     have b1:(c==62)=false:=by simp[h1]
     have b2:(c==61)=false:=by simp[h2]
     have b3:(c==60)=false:=by simp[h3]
     rw[e];clear e h0 h1 h2 h3;go_enter func118,ntmps118;go_wp2;go_ret;exact⟨rfl,rfl⟩
theorem EL(c:Int)(t:Bool)(w:World)(h:lJ c=t):Calls prog 118 #[.int .i64 c] w fun e w'=>e= .returned (.bool t)∧w=w':=h▸Lp c w
theorem P7(c:Int)(w:World):Calls prog 162 #[.int .i64 c] w fun e w'=>e= .returned (.bool (jZ c))∧w=w':=by
 by_cases h0:c=93
 ·have e:jZ c=true:=by simp[jZ,h0]
  rw[e];clear e;subst h0;go_enter func162,ntmps162;go_wp2;go_ret;exact⟨rfl,rfl⟩
 ·by_cases h1:c=80
  ·have e:jZ c=true:=by simp[jZ,h1]
   rw[e];clear e;subst h1;clear h0;go_enter func162,ntmps162;go_wp2;go_ret;exact⟨rfl,rfl⟩
  ·by_cases h2:c=88
   ·have e:jZ c=true:=by simp[jZ,h2]
    rw[e];clear e;subst h2;clear h0 h1;go_enter func162,ntmps162;go_wp2;go_ret;exact⟨rfl,rfl⟩
   ·by_cases h3:c=94
    ·have e:jZ c=true:=by simp[jZ,h3]
     rw[e];clear e;subst h3;clear h0 h1 h2;go_enter func162,ntmps162;go_wp2;go_ret;exact⟨rfl,rfl⟩
    ·by_cases h4:c=95
     ·have e:jZ c=true:=by simp[jZ,h4]
      rw[e];clear e;subst h4;clear h0 h1 h2 h3;go_enter func162,ntmps162;go_wp2;go_ret;exact⟨rfl,rfl⟩
     ·have e:jZ c=false:=by simp[jZ,h0,h1,h2,h3,h4]
      have b0:(c==93)=false:=by simp[h0]
      have b1:(c==80)=false:=by simp[h1]
      have b2:(c==88)=false:=by simp[h2]
      have b3:(c==94)=false:=by simp[h3]
      have b4:(c==95)=false:=by simp[h4]
      rw[e];clear e h0 h1 h2 h3 h4;go_enter func162,ntmps162;go_wp2;go_ret;exact⟨rfl,rfl⟩
theorem yf(c:Int)(t:Bool)(w:World)(h:jZ c=t):Calls prog 162 #[.int .i64 c] w fun e w'=>e= .returned (.bool t)∧w=w':=h▸P7 c w
theorem Mf(mb mo:Nat)(s:MS)(c:Int)(w:World)(h:iD w mb mo s):
 Calls prog 75 #[.pointer (some ⟨mb,mo,none⟩),.int .i64 c] w fun e w'=>e= .returned (.tuple #[])∧iD w' mb mo (s.skip c)∧Km mb mo w w':=by
 by_cases h1:c=7
 ·have e:s.skip c= .zero:=by simp[MS.skip,h1]
  rw[e];clear e;subst h1;go_enter func75,ntmps75;go_wp2_with (refine jm _ rfl (.tmp 12) (.tmp 11) rfl mb mo s .zero rfl _ rfl ?a1 fq h ?_)
  case a1=>rfl
  intro u hm hk _;go_wp2_with fail;go_end0;exact⟨rfl,hm,hk⟩
 ·by_cases h2:c=156
  ·have e:s.skip c= .zero:=by simp[MS.skip,h2]
   rw[e];clear e;subst h2;go_enter func75,ntmps75;go_wp2_with (refine jm _ rfl (.tmp 12) (.tmp 11) rfl mb mo s .zero rfl _ rfl ?a1 fq h ?_)
   case a1=>rfl
   intro u hm hk _;go_wp2_with fail;go_end0;exact⟨rfl,hm,hk⟩
  ·have e:s.skip c=s:=by simp[MS.skip,h1,h2]
   rw[e];clear e;have b1:(c==7)=false:=by simp[h1]
   have b2:(c==156)=false:=by simp[h2]
   clear h1 h2;go_enter func75,ntmps75;go_wp2_with fail;go_end0;exact⟨rfl,h,Km.refl _ _ _⟩
end Go.Proofs.YtheibfffilomcabGreatDoor
