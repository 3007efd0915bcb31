import Derived.Test.YtheibfffilomcaaGreatDoorTmaU
import Derived.Test.YtheibfffilomcaaGreatDoorVm0U
import Derived.Test.YtheibfffilomcaaGreatDoorEvbU
import Derived.Test.YtheibfffilomcaaGreatDoorRefU
set_option linter.all false
set_option maxHeartbeats 400000
namespace Go.Proofs.YtheibfffilomcaaGreatDoor
open Go.RowKit Go.Proofs.Tryz
variable {w:World} {ops:Array Oper} {Q:Exit→Act→World→Prop} {rest:List Oper} {ds:List Deferred} {d b al:Nat} {a:Act} {s:MS} {mk:Int} {ps:List Int} {x:Operand}
structure WL (ops:Array Oper) (Q:Exit→Act→World→Prop) (l:List Oper) (a:Act) (w:World):Prop where
 o:wpList prog ops Q l a w
theorem dO{id:Nat}(h:WL ops Q ops.toList a w):(Code.region id ops false).wp prog Q a w:=wp_region_list h.o
theorem Mk{o:Oper}{l:List Value}{v:Value}(hd:o.dst=some d)(hy:(Region.wanted o (yielded ops l.toArray)=true∧(execOp (Act.eval ⟨l.toArray,ds⟩) o).run prog w= .ok (.value v) w)∨(Region.wanted o (yielded ops l.toArray)=false∧v=undef))(h:WL ops Q rest ⟨(l.set d v).toArray,ds⟩ w):WL ops Q (o::rest) ⟨l.toArray,ds⟩ w:=⟨Ca hd hy h.o⟩
theorem Sn{o:Oper}{l:List Value}{S:World→Prop}{v:Value}(hd:o.dst=some d)(hy:YieldsIf prog ops S o v ⟨l.toArray,ds⟩)(hS:S w)(h:WL ops Q rest ⟨(l.set d v).toArray,ds⟩ w):WL ops Q (o::rest) ⟨l.toArray,ds⟩ w:=⟨ac6 hd hy hS h.o⟩
abbrev aQ (b o:Nat):Value:=.pointer (some ⟨b,o,none⟩)
theorem au{o:Oper}{l:List Value}(v:Value)(h:WL ops Q rest ⟨(l.set d v).toArray,ds⟩ w)(hd:o.dst=some d:=by rfl)(h1:Region.wanted o (yielded ops l.toArray)=true:=by kernel_rfl)(h2:(execOp (Act.eval ⟨l.toArray,ds⟩) o).run prog w= .ok (.value v) w:=by kernel_rfl):WL ops Q (o::rest) ⟨l.toArray,ds⟩ w:=Mk hd (Or.inl ⟨h1,h2⟩) h
theorem aR{o:Oper}{l:List Value}(h:WL ops Q rest ⟨(l.set d undef).toArray,ds⟩ w)(hd:o.dst=some d:=by rfl)(h1:Region.wanted o (yielded ops l.toArray)=false:=by kernel_rfl):WL ops Q (o::rest) ⟨l.toArray,ds⟩ w:=Mk hd (Or.inr ⟨h1,rfl⟩) h
theorem WL.nil(h:Q .normal a w):WL ops Q [] a w:=⟨wpList_nil h⟩
theorem NW{o:Oper}{off:Nat}{v:Value}(x:Operand)(ho:o.op= .load 3 x)(hx:a.eval x= .pointer (some ⟨b,off,none⟩))(hc:w.cell? ⟨b,off,none⟩=some v):(execOp a.eval o).run prog w= .ok (.value v) w:=by unfold execOp;simp only[ho,hx];go_simp
theorem NY{o:Oper}{off:Nat}{v:Value}(x:Operand)(ho:o.op= .load 4 x)(hx:a.eval x= .pointer (some ⟨b,off,none⟩))(hc:w.cell? ⟨b,off,none⟩=some v):(execOp a.eval o).run prog w= .ok (.value v) w:=by unfold execOp;simp only[ho,hx];go_simp
theorem iG{o:Oper}{l:List Value}{off:Nat}{v:Value}(hc:w.cell? ⟨b,off,none⟩=some v)(h:WL ops Q rest ⟨(l.set d v).toArray,ds⟩ w)(hd:o.dst=some d:=by rfl)(ho:o.op= .load 3 x:=by rfl)(hx:Act.eval ⟨l.toArray,ds⟩ x= .pointer (some ⟨b,off,none⟩):=by kernel_rfl)(h1:Region.wanted o (yielded ops l.toArray)=true:=by kernel_rfl):WL ops Q (o::rest) ⟨l.toArray,ds⟩ w:=Mk hd (Or.inl ⟨h1,NW x ho hx hc⟩) h
theorem qw{o:Oper}{l:List Value}{off:Nat}{v:Value}(hc:w.cell? ⟨b,off,none⟩=some v)(h:WL ops Q rest ⟨(l.set d v).toArray,ds⟩ w)(hd:o.dst=some d:=by rfl)(ho:o.op= .load 4 x:=by rfl)(hx:Act.eval ⟨l.toArray,ds⟩ x= .pointer (some ⟨b,off,none⟩):=by kernel_rfl)(h1:Region.wanted o (yielded ops l.toArray)=true:=by kernel_rfl):WL ops Q (o::rest) ⟨l.toArray,ds⟩ w:=Mk hd (Or.inl ⟨h1,NY x ho hx hc⟩) h
def bZ (mk c:Int):List Int→Int→Nat→List Int→Int→List Int
 | [],v,al,ps,ct=>if al≤16 then[4,0,mk,c,(al:Int)]++ps.set (al-1) v else[4,0,mk,c,ct]++ps
 |x::r,v,al,ps,ct=>
  if x=59 then(if al≤16 then bZ mk c r (-1) (al+1) (ps.set (al-1) v) (al:Int)else bZ mk c r (-1) (al+1) ps ct)
  else if x<48∨57<x then aO else bZ mk c r (min (10*max v 0+x-48) 65535) al ps ct
def yu (x:Int):Bool:=decide (60≤x∧x≤63)
def dR:List Int→Int→List Int
 | [],c=>bZ 0 c [] (-1) 1 z16 1
 |x::r,c=>if yu x=true then bZ x c r (-1) 1 z16 1 else bZ 0 c (x::r) (-1) 1 z16 1
structure RM where
 md:Int
 mr:Int
 body:List Int
def RM.zero:RM:=⟨0,0,[]⟩
def RM.esc (m:RM) (c:Int):RM × List Int:=
 if c=91 then(⟨2,0,[]⟩,aO)else if lC c=true then(⟨3,0,[]⟩,aO)else if c<48 then(⟨1,c,[]⟩,aO)else if c<127 then(.zero,[3,0,m.mr,c,0]++z16)else(.zero,aO)
def RM.take (m:RM) (c:Int):RM × List Int:=
 if c=27 then(⟨1,0,[]⟩,aO)else if c=24∨c=26 then(.zero,aO)else if c=127 then(m,aO)else if m.md=3 then(if c=7∨c=156 then(.zero,aO)else(m,aO))
 else if c<32 then(m,[2,c,0,0,0]++z16)else if m.md=0 then(m,[1,c,0,0,0]++z16)else if m.md=1 then m.esc c
 else if fe c=true then(.zero,dR m.body c)else(⟨m.md,m.mr,m.body++[c]⟩,aO)
def mI (s:MS) (c:Int):Option MS:=if 48≤c∧c≤57 then some (s.jF (c-48))else if c=59 then some s.jm else none
def oU (s:MS):List Int→Option MS
 | []=>some s
 |c::r=>(mI s c).bind fun t=>oU t r
theorem yn(s:MS)(l:List Int)(c:Int):oU s (l++[c])=(oU s l).bind fun t=>mI t c:=by
 induction l generalizing s with
 |nil=>simp[oU]
 |cons x l ih=>
  simp only[xV,oU];cases mI s x with
  |none=>rfl
  |some t=>simp[ih]
def p0:List Int:=z16.set 0 (-1)
def parse:List Int→Option MS
 | []=>some ⟨3,0,1,p0⟩
 |x::r=>if yu x=true then oU ⟨3,x,1,p0⟩ r else oU ⟨3,0,1,p0⟩ (x::r)
theorem BF{l:List Int}(hl:l≠[])(c:Int):parse (l++[c])=(parse l).bind fun t=>mI t c:=by
 cases l with
 |nil=>exact absurd rfl hl
 |cons x r=>
  simp only[xV,parse];by_cases h:yu x=true
  ·rw[ak h,ak h,yn]
  ·rw[ai h,ai h, ←xV,yn]
def BZ (mk:Int) (v:Int) (al:Nat) (ps:List Int):MS:=⟨3,mk,min (al:Int) 17,if al≤16 then ps.set (al-1) v else ps⟩
theorem R_{c v ct:Int}(h1:1≤al)(hc:16<al→ct=16):
 bZ mk c [] v al ps ct=(BZ mk v al ps).nA c:=by
 simp only[bZ,BZ,MS.nA];by_cases h:al≤16
 ·rw[ak h,ak h,show min (min (al:Int) 17) 16=(al:Int) by omega]
 ·rw[ai h,ai h,hc (by omega),show min (min (al:Int) 17) 16=16 by omega]
theorem Ol{v:Int}(h1:1≤al):(BZ mk v al ps).jm=BZ mk (-1) (al+1) (if al≤16 then ps.set (al-1) v else ps):=by
 unfold BZ MS.jm;dsimp only;by_cases h:al≤16
 ·rw[ak h];by_cases h2:al<16
  ·rw[ak (by omega),ak (by omega)];have e1:(min (al:Int) 17).toNat=al+1-1:=by omega
   rw[e1];have e2:min (min (al:Int) 17+1) 17=min ((al+1:Nat):Int) 17:=by omega
   rw[e2]
  ·rw[ai (by omega),ai (by omega)];have e2:min (min (al:Int) 17+1) 17=min ((al+1:Nat):Int) 17:=by omega
   rw[e2]
 ·rw[ai h,ai (by omega),ai (by omega)];have e2:min (min (al:Int) 17+1) 17=min ((al+1:Nat):Int) 17:=by omega
  rw[e2]
theorem KJ{v d:Int}(h1:1≤al)(hl:ps.length=16):(BZ mk v al ps).jF d=BZ mk (min (max v 0*10+d) 65535) al ps:=by
 unfold BZ MS.jF;dsimp only;by_cases h:al≤16
 ·rw[ak h,ai (by omega),ak h];have e1:(min (al:Int) 17-1).toNat=al-1:=by omega
  rw[e1];have e2:(ps.set (al-1) v).getD (al-1) 0=v:=by simp[List.getD,show al-1<ps.length by omega]
  rw[e2,List.set_set]
 ·rw[ai h,ak (by omega),ai h]
theorem oO(mk c:Int):∀(r:List Int) (v:Int) (al:Nat) (ps:List Int) (ct:Int),1≤al→ps.length=16→(16<al→ct=16)→
 bZ mk c r v al ps ct=match oU (BZ mk v al ps) r with|some t=>t.nA c|none=>aO
 | [],v,al,ps,ct,h1,hl,hc=>by rw[R_ h1 hc];rfl
 |x::r,v,al,ps,ct,h1,hl,hc=>by
  simp only[oU,mI];by_cases h59:x=59
  ·rw[ai (by omega),ak h59];simp only[zV];rw[Ol h1];by_cases h:al≤16
   ·have e:bZ mk c (x::r) v al ps ct=bZ mk c r (-1) (al+1) (ps.set (al-1) v) (al:Int):=by simp only[bZ];rw[ak h59,ak h]
    rw[e,ak h];exact oO mk c r (-1) (al+1) (ps.set (al-1) v) (al:Int) (by omega) (by simp[hl]) (fun _=>by omega)
   ·have e:bZ mk c (x::r) v al ps ct=bZ mk c r (-1) (al+1) ps ct:=by simp only[bZ];rw[ak h59,ai h]
    rw[e,ai h];exact oO mk c r (-1) (al+1) ps ct (by omega) hl (fun _=>hc (by omega))
  ·by_cases hd:48≤x∧x≤57
   ·rw[ak hd];simp only[zV];rw[KJ h1 hl];have e:bZ mk c (x::r) v al ps ct=bZ mk c r (min (10*max v 0+x-48) 65535) al ps ct:=by simp only[bZ];rw[ai h59,ai (by omega)]
    rw[e,show min (max v 0*10+(x-48)) 65535=min (10*max v 0+x-48) 65535 by omega];exact oO mk c r _ al ps ct h1 hl hc
   ·rw[ai hd,ai h59];have e:bZ mk c (x::r) v al ps ct=aO:=by simp only[bZ];rw[ai h59,ak (by omega)]
    rw[e];rfl
theorem xJ(l:List Int)(c:Int):dR l c=match parse l with|some t=>t.nA c|none=>aO:=by
 have hs:∀mk,BZ mk (-1) 1 z16=⟨3,mk,1,p0⟩:=fun mk=>by unfold BZ p0;rfl
 cases l with
 |nil=>simp only[dR,parse];rw[oO 0 c [] (-1) 1 z16 1 (by omega) rfl (by omega),hs];rfl
 |cons x r=>
  simp only[dR,parse];by_cases h:yu x=true
  ·rw[ak h,ak h,oO x c r (-1) 1 z16 1 (by omega) rfl (by omega),hs]
  ·rw[ai h,ai h,oO 0 c (x::r) (-1) 1 z16 1 (by omega) rfl (by omega),hs]
def I9 (s:MS) (m:RM):Prop:=
 (s.md=0∧m.md=0)∨(s.md=1∧m.md=1∧s.mr=m.mr)∨(s.md=5∧m.md=3)∨
 (m.md=2∧((s=⟨2,0,1,p0⟩∧m.body=[])∨(m.body≠[]∧((s.md=3∧parse m.body=some s)∨(s.md=4∧parse m.body=none)))))
theorem JY(s:MS)(d:Int):(s.jF d).md=s.md:=by unfold MS.jF;split<;>rfl
theorem Mj{t:MS}{c:Int}(h:mI s c=some t):t.md=s.md:=by
 unfold mI at h;split at h
 ·cases h;exact JY _ _
 ·split at h
  ·cases h;rfl
  ·cases h
theorem zB(c:Int):mU c=yu c:=by unfold mU yu;rw[Bool.eq_iff_iff];simp;omega
theorem yN{c:Int}(hf:fe c=false):s.dJ c=(match mI s c with|some t=>t|none=>⟨4,0,0,z16⟩,aO,false):=by
 unfold MS.dJ mI;by_cases a:48≤c∧c≤57
 ·rw[ak a,ak a]
 ·rw[ai a,ai a];by_cases b:c=59
  ·rw[ak b,ak b]
  ·rw[ai b,ai b,ai (by simp[hf])]
theorem xg{c:Int}(hf:fe c=true):s.dJ c=(.zero,s.nA c,true):=by
 have h:64≤c∧c≤126:=by simpa[fe]using hf
 unfold MS.dJ;rw[ai (by omega),ai (by omega),ak hf]
theorem KU{m:RM}(h:I9 s m)(c:Int):
 I9 (s.take c).1 (m.take c).1∧(m.take c).2=(if(s.take c).2.2 then(s.take c).2.1 else aO):=by
 by_cases h27:c=27
 ·have e1:s.take c=(⟨1,0,0,z16⟩,aO,false):=by simp[MS.take,h27]
  have e2:m.take c=(⟨1,0,[]⟩,aO):=by simp[RM.take,h27]
  rw[e1,e2];exact⟨Or.inr (Or.inl ⟨rfl,rfl,rfl⟩),rfl⟩
 ·by_cases h24:c=24∨c=26
  ·have e1:s.take c=(.zero,aO,false):=by simp[MS.take,h24]
   have e2:m.take c=(.zero,aO):=by simp[RM.take,h27,h24]
   rw[e1,e2];exact⟨Or.inl ⟨rfl,rfl⟩,rfl⟩
  ·by_cases h127:c=127
   ·have e2:m.take c=(m,aO):=by unfold RM.take;rw[ai h27,ai h24,ak h127]
    have e1:s.take c=(s,aO,false):=by
     unfold MS.take;rw[ai h24,ai h27];by_cases h5:s.md=5
     ·rw[ak h5];unfold MS.skip;rw[ai (by omega)]
     ·rw[ai h5,ai (by omega),ai (by simp[h127])]
    rw[e1,e2];exact⟨h,rfl⟩
   ·rcases h with⟨hs,hm⟩|⟨hs,hm,hr⟩|⟨hs,hm⟩|⟨hm,hb⟩
    ·by_cases h32:c<32
     ·have e1:s.take c=(s,[2,c,0,0,0]++z16,true):=by unfold MS.take;rw[ai h24,ai h27,ai (by omega),ak h32]
      have e2:m.take c=(m,[2,c,0,0,0]++z16):=by unfold RM.take;rw[ai h27,ai h24,ai h127,ai (by omega),ak h32]
      rw[e1,e2];exact⟨Or.inl ⟨hs,hm⟩,rfl⟩
     ·have e1:s.take c=(s,[1,c,0,0,0]++z16,true):=by unfold MS.take MS.dm;rw[ai h24,ai h27,ai (by omega),ai h32,ak h127,ak hs]
      have e2:m.take c=(m,[1,c,0,0,0]++z16):=by unfold RM.take;rw[ai h27,ai h24,ai h127,ai (by omega),ai h32,ak hm]
      rw[e1,e2];exact⟨Or.inl ⟨hs,hm⟩,rfl⟩
    ·by_cases h32:c<32
     ·have e1:s.take c=(s,[2,c,0,0,0]++z16,true):=by unfold MS.take;rw[ai h24,ai h27,ai (by omega),ak h32]
      have e2:m.take c=(m,[2,c,0,0,0]++z16):=by unfold RM.take;rw[ai h27,ai h24,ai h127,ai (by omega),ak h32]
      rw[e1,e2];exact⟨Or.inr (Or.inl ⟨hs,hm,hr⟩),rfl⟩
     ·have e1:s.take c=s.eZ c:=by unfold MS.take MS.dm;rw[ai h24,ai h27,ai (by omega),ai h32,ak h127,ai (by omega),ak hs]
      have e2:m.take c=m.esc c:=by unfold RM.take;rw[ai h27,ai h24,ai h127,ai (by omega),ai h32,ai (by omega),ak hm]
      rw[e1,e2];unfold MS.eZ RM.esc;by_cases a1:c=91
      ·rw[ak a1,ak a1];exact⟨Or.inr (Or.inr (Or.inr ⟨rfl,Or.inl ⟨rfl,rfl⟩⟩)),rfl⟩
      ·rw[ai a1,ai a1];by_cases a2:lC c=true
       ·rw[ak a2,ak a2];exact⟨Or.inr (Or.inr (Or.inl ⟨rfl,rfl⟩)),rfl⟩
       ·rw[ai a2,ai a2];by_cases a3:c≤47
        ·rw[ak a3,ak (show c<48 by omega)];exact⟨Or.inr (Or.inl ⟨hs,rfl,rfl⟩),rfl⟩
        ·rw[ai a3,ai (show¬c<48 by omega)];by_cases a4:c≤126
         ·rw[ak a4,ak (show c<127 by omega),hr];exact⟨Or.inl ⟨rfl,rfl⟩,rfl⟩
         ·rw[ai a4,ai (show¬c<127 by omega)];exact⟨Or.inl ⟨rfl,rfl⟩,rfl⟩
    ·have e1:s.take c=(s.skip c,aO,false):=by unfold MS.take;rw[ai h24,ai h27,ak hs]
     have e2:m.take c=(if c=7∨c=156 then(.zero,aO)else(m,aO)):=by unfold RM.take;rw[ai h27,ai h24,ai h127,ak hm]
     rw[e1,e2];unfold MS.skip;by_cases a:c=7∨c=156
     ·rw[ak a,ak a];exact⟨Or.inl ⟨rfl,rfl⟩,rfl⟩
     ·rw[ai a,ai a];exact⟨Or.inr (Or.inr (Or.inl ⟨hs,hm⟩)),rfl⟩
    ·have hsm:s.md=2∨s.md=3∨s.md=4:=by
      rcases hb with⟨rfl,_⟩|⟨_,⟨h3,_⟩|⟨h4,_⟩⟩
      ·exact Or.inl rfl
      ·exact Or.inr (Or.inl h3)
      ·exact Or.inr (Or.inr h4)
     by_cases h32:c<32
     ·have e1:s.take c=(s,[2,c,0,0,0]++z16,true):=by unfold MS.take;rw[ai h24,ai h27,ai (by omega),ak h32]
      have e2:m.take c=(m,[2,c,0,0,0]++z16):=by unfold RM.take;rw[ai h27,ai h24,ai h127,ai (by omega),ak h32]
      rw[e1,e2];exact⟨Or.inr (Or.inr (Or.inr ⟨hm,hb⟩)),rfl⟩
     ·have e1:s.take c=s.dm c:=by unfold MS.take;rw[ai h24,ai h27,ai (by omega),ai h32,ak h127]
      have e2:m.take c=(if fe c=true then(.zero,dR m.body c)else(⟨m.md,m.mr,m.body++[c]⟩,aO)):=by unfold RM.take;rw[ai h27,ai h24,ai h127,ai (by omega),ai h32,ai (by omega),ai (by omega)]
      rw[e1,e2];rcases hb with⟨rfl,hbd⟩|⟨hne,⟨h3,hp⟩|⟨h4,hp⟩⟩
      ·rw[hbd];have ev:MS.dm ⟨2,0,1,p0⟩ c=(if mU c=true then(⟨3,c,1,p0⟩,aO,false)else MS.dJ ⟨3,0,1,p0⟩ c):=by unfold MS.dm;rw[ai (by decide),ai (by decide),ak rfl]
       rw[ev];cases hf:fe c with
       |true=>
        have hmk:¬mU c=true:=by
         rw[zB];have:64≤c∧c≤126:=by simpa[fe]using hf
         simp[yu];omega
        rw[ak rfl,ai hmk,xg hf,xJ];exact⟨Or.inl ⟨rfl,rfl⟩,rfl⟩
       |false=>
        rw[ai (show¬(false=true) by simp)];by_cases hmk:mU c=true
        ·rw[ak hmk];refine⟨Or.inr (Or.inr (Or.inr ⟨hm,Or.inr ⟨by simp,Or.inl ⟨rfl,?_⟩⟩⟩)),rfl⟩;simp only[mP,parse];rw[ak (by rw[←zB];exact hmk)];rfl
        ·rw[ai hmk,yN hf];have hpc:parse ([]++[c])=mI ⟨3,0,1,p0⟩ c:=by simp only[mP,parse];rw[ai (by rw[←zB];exact hmk)];simp only[oU];cases mI ⟨3,0,1,p0⟩ c<;>rfl
         refine⟨Or.inr (Or.inr (Or.inr ⟨hm,Or.inr ⟨by simp,?_⟩⟩)),rfl⟩;dsimp only;rw[hpc];cases hst:mI ⟨3,0,1,p0⟩ c with
         |none=>exact Or.inr ⟨rfl,rfl⟩
         |some t=>exact Or.inl ⟨Mj hst,rfl⟩
      ·have ev:s.dm c=s.dJ c:=by unfold MS.dm;rw[ai (by omega),ai (by omega),ai (by omega),ak h3]
       rw[ev];cases hf:fe c with
       |true=>rw[ak rfl,xg hf,xJ,hp];exact⟨Or.inl ⟨rfl,rfl⟩,rfl⟩
       |false=>
        rw[ai (show¬(false=true) by simp),yN hf];refine⟨Or.inr (Or.inr (Or.inr ⟨hm,Or.inr ⟨by simp,?_⟩⟩)),rfl⟩;dsimp only;rw[BF hne,hp];simp only[zV];cases hst:mI s c with
        |none=>exact Or.inr ⟨rfl,rfl⟩
        |some t=>exact Or.inl ⟨(Mj hst).trans h3,rfl⟩
      ·have ev:s.dm c=(if fe c=true then(.zero,aO,false)else(s,aO,false)):=by unfold MS.dm;rw[ai (by omega),ai (by omega),ai (by omega),ai (by omega),ak h4]
       rw[ev];cases hf:fe c with
       |true=>rw[ak rfl,ak rfl,xJ,hp];exact⟨Or.inl ⟨rfl,rfl⟩,rfl⟩
       |false=>rw[ai (show¬(false=true) by simp),ai (show¬(false=true) by simp)];refine⟨Or.inr (Or.inr (Or.inr ⟨hm,Or.inr ⟨by simp,Or.inr ⟨h4,?_⟩⟩⟩)),rfl⟩;dsimp only;rw[BF hne,hp];rfl
def RM.evs (m:RM):List Int→RM × List (List Int)
 | []=>(m,[])
 |c::r=>((RM.evs (m.take c).1 r).1,(if(m.take c).2.getD 0 0≠0 then[(m.take c).2]else[])++(RM.evs (m.take c).1 r).2)
theorem Ku(c:Int)(w:World):Calls prog 116 #[.int .i64 c] w fun e w'=>e= .returned (.bool (fe c))∧w=w':=by
 by_cases c1:64≤c
 ·by_cases c2:c≤126
  ·have e:fe c=true:=by simp[fe,c1,c2]
   rw[e];clear e;go_enter func116,ntmps116;go_wp2;go_ret;exact⟨rfl,rfl⟩
  ·have e:fe c=false:=by simp[fe,c2]
   have d2:decide (c≤126)=false:=by simp[c2]
   rw[e];clear e;go_enter func116,ntmps116;go_wp2;go_ret;exact⟨rfl,rfl⟩
 ·have e:fe c=false:=by simp[fe,c1]
  have d2:decide (64≤c)=false:=by simp[c1]
  rw[e];clear e;go_enter func116,ntmps116;go_wp2;go_ret;exact⟨rfl,rfl⟩
theorem DX(c:Int)(t:Bool)(w:World)(h:fe c=t):Calls prog 116 #[.int .i64 c] w fun e w'=>e= .returned (.bool t)∧w=w':=h▸Ku c w
theorem iJ{o:Oper}(u:World)(hgd:o.guard=none)(x y:Operand)(ho:o.op= .store 3 x y)(g j:Nat)(ev:List Int)(c:Int)(hj:j<ev.length)(hx:a.eval x= .pointer (some ⟨g,j,none⟩))(hy:a.eval y= .int .i64 c)(t:TypeId)(hg:u.heap[g]? =some (.cells (aA ev) t (0,0)))(h:∀u',u'.heap[g]? =some (.cells (aA (ev.set j c)) t (0,0))→u.grownBy u' (some g)→u'.heap.size=u.heap.size→wpList prog ops Q rest (a.put o.dst undef) u'):wpList prog ops Q (o::rest) a u:=by
 have hc:∃v,u.cell? ⟨g,j,none⟩=some v:=by rw[bG _ _ _ _ _ _ hg];exact⟨_,Array.getElem?_eq_getElem (by rw[gP];exact hj)⟩
 obtain⟨v,hc⟩:=hc;have hf:=oh u g j _ t hg;refine oq hgd fun K hK=>?_;have hset:(aA ev).setIfInBounds j (.int .i64 c)=aA (ev.set j c):=by simp[aA,eF]
 have R:=hK _ _ (h (u.setCell ⟨g,j,none⟩ (.int .i64 c)) (by rw[rR u g j _ t _ hg,hset]) ⟨rfl,rfl,rfl,by simp,fun k _ hk=>uI u ⟨g,j,none⟩ k _ (fun e=>hk (by simp[e]))⟩ (by simp[World.setCell]));have hs:(sizeOf 3).run prog u= .ok 1 u:=by kernel_rfl
 unfold Oper.wp execOp;simp only[ho,hx,hy];go_simp;exact R
def lI (w:World) (ao:Option Addr) (B:List Int):Prop:=∀j x,B[j]? =some x→∃b o,ao=some ⟨b,o,none⟩∧b<w.heap.size∧w.cell? ⟨b,o+j,none⟩=some (.int .i64 x)
end Go.Proofs.YtheibfffilomcaaGreatDoor
