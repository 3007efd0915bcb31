import Derived.Test.YtheibfffilomcabGreatDoorDaU
import Derived.Test.YtheibfffilomcabGreatDoorEvnU
import Derived.Deep.QuietTactic
import Derived.BigQuiet
set_option linter.all false
set_option maxRecDepth 100000
set_option maxHeartbeats 1000000
namespace Go.Proofs.YtheibfffilomcabGreatDoor
open Go.RowKit Go.Proofs.Tryz
variable {w w':World} {ops:Array Oper} {rest:List Oper} {a:Act} {Q:Exit→Act→World→Prop} {k:Nat} {S:bK}
structure dQ where
 row:Int
 col:Int
 waits:Bool
 pen:fO
 first:Int
 second:Int
 use:Int
 origin:Bool
deriving DecidableEq
def je:dQ:=⟨0,0,false,Aa,0,0,0,false⟩
structure TS where
 rows:Nat
 aa:Nat
 s0:bK
 v0:dQ
 s1:bK
 v1:dQ
 row:Int
 col:Int
 waits:Bool
 pen:fO
 first:Int
 second:Int
 use:Int
 origin:Bool
 top:Int
 bottom:Int
 wrap:Bool
 insert:Bool
 shown:Int
 tabs:List Bool
namespace TS
def fresh (rows aa:Nat):TS:=
 ⟨rows,aa,List.replicate rows (dK aa),je,List.replicate rows (dK aa),je,0,0,false,Aa,0,0,0,false,0,(rows:Int)-1,true,false,0,(List.range aa).map fun c=>decide (0<c∧c % 8=0)⟩
def spot (s:TS):dQ:=⟨s.row,s.col,s.waits,s.pen,s.first,s.second,s.use,s.origin⟩
def cur (s:TS):bK:=if s.shown=0 then s.s0 else s.s1
def setCur (s:TS) (S:bK):TS:=if s.shown=0 then{s with s0:=S} else{s with s1:=S}
def saved (s:TS):dQ:=if s.shown=0 then s.v0 else s.v1
def aY (s:TS):List aC:=s.cur.getD s.row.toNat []
def aI (s:TS) (r:List aC):TS:=s.setCur (s.cur.set s.row.toNat r)
def bn (n low high:Int):Int:=max low (min n high)
def bD (s:TS) (c:Int):TS:={s with col:=bn c 0 ((s.aa:Int)-1)}
def kX (s:TS) (r:Int):TS:={s with row:=bn r 0 ((s.rows:Int)-1)}
def aW (s:TS) (r:Int):TS:=if s.origin then{s with row:=bn (s.top+r) s.top s.bottom} else s.kX r
def home (s:TS):TS:={(s.aW 0).bD 0 with waits:=false}
def rise (s:TS) (n:Int):TS:={s with row:=max (s.row-n) (if s.top≤s.row then s.top else 0)}
def sink (s:TS) (n:Int):TS:={s with row:=min (s.row+n) (if s.row≤s.bottom then s.bottom else(s.rows:Int)-1)}
def height (s:TS):Nat:=(s.bottom+1-s.top).toNat
def fe (s:TS) (n:Nat):TS:=s.setCur (MJ s.cur s.top.toNat s.height n s.aa)
def eG (s:TS) (n:Nat):TS:=s.setCur (oJ s.cur s.top.toNat s.height n s.aa)
def down (s:TS):TS:=if s.row=s.bottom then s.fe 1 else s.kX (s.row+1)
def up (s:TS):TS:=if s.row=s.top then s.eG 1 else s.kX (s.row-1)
def aT (s:TS):TS:=(s.bD 0).down
def iK (tabs:List Bool) (c:Nat):Int:=match (tabs.drop c).findIdx? id with
 |some i=>(c:Int)+(i:Int)
 |none=>(tabs.length:Int)-1
def lW (s:TS):TS:=s.bD (iK s.tabs (s.col.toNat+1))
def save (s:TS):TS:=if s.shown=0 then{s with v0:=s.spot} else{s with v1:=s.spot}
def nQ (s:TS) (p:dQ):TS:={s with row:=p.row,col:=p.col,waits:=p.waits,pen:=p.pen,first:=p.first,second:=p.second,use:=p.use,origin:=p.origin}
def restore (s:TS):TS:=s.nQ {s.saved with waits:=s.saved.waits&&s.wrap,row:=if s.saved.origin then bn s.saved.row s.top s.bottom else s.saved.row}
def pR (c:Int):Int:=
 if c=106 then 9496 else if c=107 then 9488 else if c=108 then 9484 else if c=109 then 9492 else if c=110 then 9532 else if c=113 then 9472 else
 if c=116 then 9500 else if c=117 then 9508 else if c=118 then 9524 else if c=119 then 9516 else if c=120 then 9474 else c
def spelt (s:TS) (c:Int):Int:=if(if s.use=1 then s.second else s.first)=1 then pR c else c
def jd (s:TS) (c:Int) (wd:Nat):TS:=s.aI (tL s.aY s.col.toNat (s.spelt c) wd s.pen)
def jr (s:TS) (wd:Nat):TS:=s.aI (fQ s.aY s.col.toNat wd)
def step (s:TS) (wd:Nat):TS:={s.bD (s.col+(wd:Int))with waits:=s.wrap&&decide ((s.aa:Int)-1<s.col+(wd:Int))}
def aJ (s:TS):TS:={s with waits:=false}
def dS (s:TS):TS:=if s.waits then s.aJ.aT else s
def iG (s:TS) (c:Int) (wd:Nat):TS:=((if s.insert then s.jr wd else s).jd c wd).step wd
def print (s:TS) (c:Int) (wd:Nat):TS:=
 if wd=0∨s.aa<wd then s
 else if(s.aa:Int)<s.dS.col+(wd:Int)then(if s.dS.wrap then s.dS.aT.iG c wd else s.dS)
 else s.dS.iG c wd
def control (s:TS) (c:Int):TS:=
 let t:=if 8≤c∧c≤13 then s.aJ else s
 if c=8 then t.bD (t.col-1)else if c=9 then t.lW else if c=10∨c=11∨c=12 then t.down else if c=13 then t.bD 0
 else if c=14 then{t with use:=1} else if c=15 then{t with use:=0} else t
def dB (f b:Int):Int:=if f=66 then 0 else if f=48 then 1 else b
def bare (s:TS) (f:Int):TS:=
 if f=55 then s.save else if f=56 then s.restore else if f=68 then s.aJ.down else if f=77 then s.aJ.up else if f=69 then s.aJ.aT
 else if f=72 then{s with tabs:=s.tabs.set s.col.toNat true} else if f=99 then fresh s.rows s.aa else s
def escape (s:TS) (mark f:Int):TS:=
 if mark=0 then s.bare f else if mark=40 then{s with first:=dB f s.first} else if mark=41 then{s with second:=dB f s.second} else s
def times (n:Int):Int:=max n 1
def amount (n:Int):Int:=max n 0
def move (s:TS) (f p0 p1:Int):TS:=
 if f=65 then s.rise (times p0)else if f=66 then s.sink (times p0)else if f=67 then s.bD (s.col+times p0)else if f=68 then s.bD (s.col-times p0)
 else if f=71 then s.bD (times p0-1)else if f=100 then s.aW (times p0-1)else if f=72∨f=102 then(s.aW (times p0-1)).bD (times p1-1)else s
def dA (s:TS) (what:Int):TS:=
 if what=0 then s.aI (fK s.aY s.col.toNat s.aa)else if what=1 then s.aI (fK s.aY 0 (s.col.toNat+1))else if what=2 then s.aI (fK s.aY 0 s.aa)else s
def dD (s:TS) (what:Int):TS:=
 if what=0 then s.setCur (bF s.cur (s.row.toNat+1) s.aa (s.rows-(s.row.toNat+1)))else if what=1 then s.setCur (bF s.cur 0 s.aa s.row.toNat)else if what=2 then s.setCur (bF s.cur 0 s.aa s.rows)else s
def inRegion (s:TS):Bool:=decide (s.top≤s.row∧s.row≤s.bottom)
def below (s:TS):Nat:=(s.bottom+1-s.row).toNat
def edit (s:TS) (f p0:Int):TS:=
 let n:=(times p0).toNat
 if f=74 then(s.dA (amount p0)).dD (amount p0)else if f=75 then s.dA (amount p0)else if f=64 then s.aI (fQ s.aY s.col.toNat n)
 else if f=80 then s.aI (iI s.aY s.col.toNat n)else if f=88 then s.aI (fK s.aY s.col.toNat (min (s.col.toNat+n) s.aa))
 else if f=76 then(if s.inRegion then(s.setCur (oJ s.cur s.row.toNat s.below n s.aa)).bD 0 else s)
 else if f=77 then(if s.inRegion then(s.setCur (MJ s.cur s.row.toNat s.below n s.aa)).bD 0 else s)
 else if f=83 then s.fe n else if f=84 then s.eG n else s
def fH (s:TS) (top bottom:Int):TS:=
 let b:=if bottom<0∨(s.rows:Int)-1<bottom then(s.rows:Int)-1 else bottom
 if b≤top then s else{s with top:=top,bottom:=b}.home
def eD (s:TS) (what:Int):TS:=if what=0 then{s with tabs:=s.tabs.set s.col.toNat false} else if what=3 then{s with tabs:=List.replicate s.tabs.length false} else s
def turn (p:fO) (n:Int):fO:=
 if n=0 then Aa else if n=1∨n=22 then{p with b:=decide (n=1)} else if n=4∨n=24 then{p with u:=decide (n=4)} else if n=7∨n=27 then{p with t:=decide (n=7)}
 else if 30≤n∧n≤37 then{p with f:=n-29} else if n=39 then{p with f:=0} else if 40≤n∧n≤47 then{p with k:=n-39} else if n=49 then{p with k:=0} else p
def turns (s:TS):List Int→TS
 | []=>s
 |n::l=>({s with pen:=turn s.pen (amount n)}:TS).turns l
def jo (s:TS) (f:Int) (ps:List Int) (ct:Nat):TS:=
 if f=114 then s.fH (times (ps.getD 0 0)-1) (amount (ps.getD 1 0)-1)else if f=103 then s.eD (amount (ps.getD 0 0))else if f=109 then s.turns (ps.take ct)
 else if f=104∨f=108 then(if ps.getD 0 0=4 then{s with insert:=decide (f=104)} else s)else s
def set1 (s:TS) (n:Int) (on:Bool):TS:=
 if n=6 then({s with origin:=on}:TS).home else if n=7 then{s with wrap:=on,waits:=s.waits&&on} else if n=47 then{s with shown:=if on then 1 else 0} else s
def sets (s:TS) (on:Bool):List Int→TS
 | []=>s
 |n::l=>(s.set1 n on).sets on l
def mW (f:Int):Bool:=decide (f∈[65,66,67,68,71,100,72,102,64,80,88,76,77])
def sequence (s:TS) (mark f:Int) (ps:List Int) (ct:Nat):TS:=
 if mark=0 then
  let t:=if mW f then s.aJ else s
  ((t.move f (ps.getD 0 0) (ps.getD 1 0)).edit f (ps.getD 0 0)).jo f ps ct
 else if mark=63 then(if f=104∨f=108 then s.sets (decide (f=104)) (ps.take ct)else s)else s
end TS
theorem Qa(sb a len n cap aa:Nat)(gs:List Nat)(S:bK)(w:World)(hs:ShAt w sb gs aa S)(han:a+len≤S.length)(hl1:1≤len)(hl:len≤100)(hn:n≤70000)(hn1:1≤n)(hc:aa≤100)(hcap:len≤cap):
 Calls prog 171 #[.slice (some ⟨sb,a,none⟩) len cap,.int .i64 (n:Int)] w fun e w'=>e= .returned (.tuple #[])∧ShAt w' sb gs aa (MJ S a len n aa)∧Ch (· ∈gs) w w':=by
 by_cases hm:n<len
 ·have e:MJ S a len n aa=bF (lD S a n (len-n)) (a+(len-n)) aa n:=by rw[MJ,yl (by omega),show len-(len-n)=n by omega]
  rw[e];clear e;have e1:(len:Int)-(n:Int)=((len-n:Nat):Int):=by omega
  have v1:IntKind.i64.wrap ((len-n:Nat):Int)=((len-n:Nat):Int):=bV _ (by omega);have i1:(n:Int)<(len:Int):=by omega
  have i2:n≤len:=by omega
  have i3:len-(len-n)=n:=by omega
  have i4:cap≠len-n:=by omega
  have i5:len-n≤len:=by omega
  have i6:len-n≤cap:=by omega
  have KC:Hid _:=hs;clear hs;go_enter func171,ntmps171;go_wp2_with fail;go_loopw [14] (fun i wr=>∃k:Nat,k≤len-n∧i= .int .i64 k∧ShAt wr sb gs aa (lD S a n k)∧Ch (· ∈gs) w wr) (fun i _=>len-n-(intOf i).toNat)
  case atStart=>exact⟨0,jy _,rfl,KC.o,Ch.refl _ _⟩
  case round=>
   obtain⟨k,hk,rfl,lU,hch⟩:=hrel;by_cases hlt:k<len-n
   ·have ik:(k:Int)<((len-n:Nat):Int):=by omega
    obtain⟨g,hg,hcell,hrow,hlen⟩:=lU.get (i:=a+k) (by rw[jg];omega);obtain⟨g2,hg2,hcell2,hrow2,Ez⟩:=lU.get (i:=a+k+n) (by rw[jg];omega);have HS:Hid _:=lU;have HC:Hid _:=hch;have HR:Hid (aK wr g ((lD S a n k).getD (a+k) [])):=hrow;have HL:Hid _:=hlen;have HR2:Hid (aK wr g2 ((lD S a n k).getD (a+k+n) [])):=hrow2;have HL2:Hid _:=Ez;have HG:Hid _:=hg;have kl:k<len:=by omega
    have kl2:(k:Int)<(len:Int):=by omega
    have v2:IntKind.i64.wrap ((k:Int)+(n:Int))=(k:Int)+(n:Int):=bV _ (by omega);have t1:((k:Int)+(n:Int)).toNat=k+n:=by omega
    have j1:(0:Int)≤(k:Int)+(n:Int):=by omega
    have j2:(k:Int)+(n:Int)<(len:Int):=by omega
    have j3:k+n<len:=by omega
    have j4:a+(k+n)=a+k+n:=by omega
    clear lU hch hrow hlen hrow2 Ez hg hg2;go_wp2_with fail;have HH:World.cell? ({wr with drawn:=wr.drawn+1}:World) ⟨sb,a+k,none⟩=some (.slice (some ⟨g,0,none⟩) aa aa)∧World.cell? ({wr with drawn:=wr.drawn+1}:World) ⟨sb,a+k+n,none⟩=some (.slice (some ⟨g2,0,none⟩) aa aa):=⟨hcell,hcell2⟩;refine fJ (S:=fun x=>x.cell? ⟨sb,a+k,none⟩=some (.slice (some ⟨g,0,none⟩) aa aa)∧x.cell? ⟨sb,a+k+n,none⟩=some (.slice (some ⟨g2,0,none⟩) aa aa)) bI ?_;refine ak 0 HH ?_ (v:=.slice (some ⟨sb,a,none⟩) len cap);refine ak 1 HH ?_ (v:=.int .i64 (k:Int));refine ak 2 HH ?_ (v:=.pointer (some ⟨sb,a+k,none⟩));refine ak 3 HH ?_ (v:=.slice (some ⟨g,0,none⟩) aa aa);simp only[ah,ag];refine ak 4 HH ?_ (v:=.slice (some ⟨sb,a,none⟩) len cap);refine ak 5 HH ?_ (v:=.int .i64 (k:Int));refine ak 6 HH ?_ (v:=.int .i64 (n:Int));refine ak 7 HH ?_ (v:=.int .i64 ((k:Int)+(n:Int)));simp only[ah,ag];refine ak 8 HH ?_ (v:=.pointer (some ⟨sb,a+k+n,none⟩));refine ak 9 HH ?_ (v:=.slice (some ⟨g2,0,none⟩) aa aa);simp only[ah,ag];refine wpAnyH_all (rs:=[10]) (by kernel_rfl) (by simp) ?_;intro i hi;rw[iM]at hi;subst hi;refine gW ?_;refine kY 27 (.tmp 20) (.tmp 26) rfl rfl _ _ _ _ _ _ rfl rfl g g2 0 0 aa _ _ HR.o HR2.o (by omega) (by rw[HL.o];omega) (by rw[HL2.o];omega) (fun _=>⟨rfl,rfl⟩) ?_;intro u3 h3 c3;rw[lay_all _ _ _ HL.o HL2.o]at h3;have c3':Ch (· =g) wr u3:=⟨c3.os,c3.tape,c3.output,c3.size,c3.block⟩;have S2:=HS.o.set HG.o h3 HL2.o c3';have C2:Ch (· ∈gs) w u3:=HC.o.trans (c3'.mono fun k _ e=>e▸fu HG.o);have hne:sb≠g:=fun e=>HS.o.o (e▸fu HG.o);have hb3:=c3'.block sb HS.o.lt hne;refine⟨⟨(eT hb3).trans hcell,(eT hb3).trans hcell2⟩,?_⟩;clear HS HC HR HL HR2 HL2 HG h3 c3 c3' hb3 HH hcell hcell2 KC;simp only[ah,ag];refine aM ?_;go_wp2_with fail;go_roundw
    case rel=>exact⟨k+1,by omega,by go_num,S2,C2⟩
    case measure=>simp[intOf];omega
   ·have hkn:k=len-n:=by omega
    subst hkn;have HS:Hid _:=lU;have HC:Hid _:=hch;clear lU hch KC;go_wp2_with (go_at_call 227;refine(kr sb (a+(len-n)) n _ aa gs _ _ HS.o (by rw[jg];omega) (by omega) hc).mono ?_;rintro e w1 ⟨rfl,h1,c1⟩);go_end0;exact⟨rfl,h1,HC.o.trans c1⟩
 ·have e:MJ S a len n aa=bF S a aa len:=by rw[MJ,ym (by omega),Nat.sub_self,Nat.sub_zero];rfl
  rw[e];clear e;rcases(show len<n∨len=n by omega)with hmn|hmn
  ·have k1:¬n≤len:=by omega
   have k3:¬(n:Int)≤(len:Int):=by omega
   have v1:IntKind.i64.wrap 0=0:=bV _ (by omega);have i4:cap≠0:=by omega
   have KC:Hid _:=hs;clear hs;go_enter func171,ntmps171;go_wp2_with fail;go_loopw [14] (fun i wr=>i= .int .i64 0∧wr=w) (fun _ _=>0)
   case atStart=>exact⟨rfl,rfl⟩
   case round=>obtain⟨rfl,rfl⟩:=hrel;go_wp2_with (go_at_call 227;refine(kr sb a len _ aa gs _ _ KC.o (by omega) (by omega) hc).mono ?_;rintro e w1 ⟨rfl,h1,c1⟩);go_end0;exact⟨rfl,h1,c1⟩
  ·subst hmn;have v1:IntKind.i64.wrap 0=0:=bV _ (by omega);have i4:cap≠0:=by omega
   have KC:Hid _:=hs;clear hs;go_enter func171,ntmps171;go_wp2_with fail;go_loopw [14] (fun i wr=>i= .int .i64 0∧wr=w) (fun _ _=>0)
   case atStart=>exact⟨rfl,rfl⟩
   case round=>obtain⟨rfl,rfl⟩:=hrel;go_wp2_with (go_at_call 227;refine(kr sb a len _ aa gs _ _ KC.o (by omega) (by omega) hc).mono ?_;rintro e w1 ⟨rfl,h1,c1⟩);go_end0;exact⟨rfl,h1,c1⟩
theorem En(sb a len n cap aa:Nat)(gs:List Nat)(S:bK)(w:World)(hs:ShAt w sb gs aa S)(han:a+len≤S.length)(hl1:1≤len)(hl:len≤100)(hn:n≤70000)(hn1:1≤n)(hc:aa≤100)(hcap:len≤cap):
 Calls prog 188 #[.slice (some ⟨sb,a,none⟩) len cap,.int .i64 (n:Int)] w fun e w'=>e= .returned (.tuple #[])∧ShAt w' sb gs aa (oJ S a len n aa)∧Ch (· ∈gs) w w':=by
 have e0:(len:Int)-1=((len-1:Nat):Int):=by omega
 have v0:IntKind.i64.wrap ((len-1:Nat):Int)=((len-1:Nat):Int):=bV _ (by omega);by_cases hm:n≤len
 ·have e:oJ S a len n aa=bF (fC S a n len (len-n)) a aa n:=by rw[oJ,yl (by omega)]
  rw[e];clear e;have i1:(n:Int)≤(len:Int):=by omega
  have i6:n≤cap:=by omega
  have i7:(n:Int)≤(cap:Int):=by omega
  have KC:Hid _:=hs;clear hs;go_enter func188,ntmps188;go_wp2_with fail;go_loopw [4] (fun i wr=>∃q j:Nat,q+j=len-1∧n≤q+1∧i= .int .i64 q∧ShAt wr sb gs aa (fC S a n len j)∧Ch (· ∈gs) w wr) (fun i _=>(intOf i).toNat)
  case atStart=>exact⟨len-1,0,rfl,by omega,rfl,KC.o,Ch.refl _ _⟩
  case round=>
   obtain⟨q,j,hqj,hnq,rfl,lU,hch⟩:=hrel;by_cases hlt:n≤q
   ·have ik:(n:Int)≤(q:Int):=by omega
    obtain⟨g,hg,hcell,hrow,hlen⟩:=lU.get (i:=a+q) (by rw[ig];omega);obtain⟨g2,hg2,hcell2,hrow2,Ez⟩:=lU.get (i:=a+(q-n)) (by rw[ig];omega);have ed:fC S a n len (j+1)=(fC S a n len j).set (a+q) ((fC S a n len j).getD (a+(q-n)) []):=by rw[fC,show len-1-j=q by omega,show a+q-n=a+(q-n) by omega]
    have HE:Hid _:=ed;have HS:Hid _:=lU;have HC:Hid _:=hch;have HR:Hid (aK wr g ((fC S a n len j).getD (a+q) [])):=hrow;have HL:Hid _:=hlen;have HR2:Hid (aK wr g2 ((fC S a n len j).getD (a+(q-n)) [])):=hrow2;have HL2:Hid _:=Ez;have HG:Hid _:=hg;have HQ:Hid _:=hqj;have kl:q<len:=by omega
    have kl2:(q:Int)<(len:Int):=by omega
    have e2:(q:Int)-(n:Int)=((q-n:Nat):Int):=by omega
    have v2:IntKind.i64.wrap ((q-n:Nat):Int)=((q-n:Nat):Int):=bV _ (by omega);have e3:(q:Int)-1=((q-1:Nat):Int):=by omega
    have v3:IntKind.i64.wrap ((q-1:Nat):Int)=((q-1:Nat):Int):=bV _ (by omega);have j3:q-n<len:=by omega
    have j4:((q-n:Nat):Int)<(len:Int):=by omega
    clear lU hch hrow hlen hrow2 Ez hg hg2 ed hqj;go_wp2_with fail;have HH:World.cell? ({wr with drawn:=wr.drawn+1}:World) ⟨sb,a+q,none⟩=some (.slice (some ⟨g,0,none⟩) aa aa)∧World.cell? ({wr with drawn:=wr.drawn+1}:World) ⟨sb,a+(q-n),none⟩=some (.slice (some ⟨g2,0,none⟩) aa aa):=⟨hcell,hcell2⟩;refine fJ (S:=fun x=>x.cell? ⟨sb,a+q,none⟩=some (.slice (some ⟨g,0,none⟩) aa aa)∧x.cell? ⟨sb,a+(q-n),none⟩=some (.slice (some ⟨g2,0,none⟩) aa aa)) bI ?_;refine ak 0 HH ?_ (v:=.slice (some ⟨sb,a,none⟩) len cap);refine ak 1 HH ?_ (v:=.int .i64 (q:Int));refine ak 2 HH ?_ (v:=.pointer (some ⟨sb,a+q,none⟩));refine ak 3 HH ?_ (v:=.slice (some ⟨g,0,none⟩) aa aa);simp only[ah,ag];refine ak 4 HH ?_ (v:=.slice (some ⟨sb,a,none⟩) len cap);refine ak 5 HH ?_ (v:=.int .i64 (q:Int));refine ak 6 HH ?_ (v:=.int .i64 (n:Int));refine ak 7 HH ?_ (v:=.int .i64 ((q-n:Nat):Int));simp only[ah,ag];refine ak 8 HH ?_ (v:=.pointer (some ⟨sb,a+(q-n),none⟩));refine ak 9 HH ?_ (v:=.slice (some ⟨g2,0,none⟩) aa aa);simp only[ah,ag];refine wpAnyH_all (rs:=[10]) (by kernel_rfl) (by simp) ?_;intro i hi;rw[iM]at hi;subst hi;refine gW ?_;refine kY 27 (.tmp 20) (.tmp 26) rfl rfl _ _ _ _ _ _ rfl rfl g g2 0 0 aa _ _ HR.o HR2.o (by omega) (by rw[HL.o];omega) (by rw[HL2.o];omega) (fun _=>⟨rfl,rfl⟩) ?_;intro u3 h3 c3;rw[lay_all _ _ _ HL.o HL2.o]at h3;have c3':Ch (· =g) wr u3:=⟨c3.os,c3.tape,c3.output,c3.size,c3.block⟩;have S2:=HS.o.set HG.o h3 HL2.o c3';rw[←HE.o]at S2;have C2:Ch (· ∈gs) w u3:=HC.o.trans (c3'.mono fun k _ e=>e▸fu HG.o);have hne:sb≠g:=fun e=>HS.o.o (e▸fu HG.o);have hb3:=c3'.block sb HS.o.lt hne;refine⟨⟨(eT hb3).trans hcell,(eT hb3).trans hcell2⟩,?_⟩;clear HS HC HR HL HR2 HL2 HG h3 c3 c3' hb3 HH hcell hcell2 KC HE;simp only[ah,ag];refine aM ?_;go_wp2_with fail;go_roundw
    case rel=>exact⟨q-1,j+1,by have:=HQ.o;omega,by omega,rfl,S2,C2⟩
    case measure=>simp[intOf];omega
   ·have hkn:j=len-n:=by omega
    subst hkn;have ik:¬(n:Int)≤(q:Int):=by omega
    have HS:Hid _:=lU;have HC:Hid _:=hch;clear lU hch KC hqj;go_wp2_with (go_at_call 227;refine(kr sb a n _ aa gs _ _ HS.o (by rw[ig];omega) (by omega) hc).mono ?_;rintro e w1 ⟨rfl,h1,c1⟩);go_end0;exact⟨rfl,h1,HC.o.trans c1⟩
 ·have e:oJ S a len n aa=bF S a aa len:=by rw[oJ,ym (by omega),Nat.sub_self];rfl
  rw[e];clear e;have k3:¬(n:Int)≤(len:Int):=by omega
  have k4:¬len≤len-1:=by omega
  have k5:¬(len:Int)≤((len-1:Nat):Int):=by omega
  have KC:Hid _:=hs;clear hs;go_enter func188,ntmps188;go_wp2_with fail;go_loopw [4] (fun i wr=>i= .int .i64 ((len-1:Nat):Int)∧wr=w) (fun _ _=>0)
  case atStart=>exact⟨rfl,rfl⟩
  case round=>obtain⟨rfl,rfl⟩:=hrel;go_wp2_with (go_at_call 227;refine(kr sb a len _ aa gs _ _ KC.o (by omega) (by omega) hc).mono ?_;rintro e w1 ⟨rfl,h1,c1⟩);go_end0;exact⟨rfl,h1,c1⟩
def jU:aC:=⟨0,Aa,0⟩
theorem OY(n:Nat):madeCells (bO jU) (n*7)=zx (List.replicate n jU):=by
 apply Array.ext_getElem?;intro i;have hr:(zx (List.replicate n jU))[i]? =(iw (List.replicate n jU))[i]? :=by simp[zx]
 rw[hr,uS,Jm];by_cases h:i<n*7
 ·rw[aS (by omega)];simp only[madeCells,Array.getElem?_map,Array.getElem?_range,aS h,Option.map_some,DR,pI];have:i % 7<7:=Nat.mod_lt _ (by omega);rcases(show i % 7=0∨i % 7=1∨i % 7=2∨i % 7=3∨i % 7=4∨i % 7=5∨i % 7=6 by omega)with e|e|e|e|e|e|e<;>rw[e]<;>rfl
 ·rw[aG (by omega)];rw[qh (by rw[size_madeCells];omega)];rfl
theorem Ra:(prog.info? 104).map (fun i=>(i.zero,i.size,i.bytes))=some (some (.agg (bO jU)),7,40):=by kernel_rfl
theorem Q9:(prog.info? 186).map (fun i=>(i.zero,i.size,i.bytes))=some (some (.slice none 0 0),1,24):=by kernel_rfl
theorem UW:(prog.info? 4).map (fun i=>(i.zero,i.size,i.bytes))=some (some (.bool false),1,1):=by kernel_rfl
theorem Qg{o:Oper}(w:World)(hgd:o.guard=none)(x y:Operand)(ho:o.op= .makeSlice 186 x y)(n:Nat)(hx:a.eval x= .int .i64 (n:Int))(hy:a.eval y= .int .i64 (n:Int))(hn:n≤100)(h:∀w',aK w' w.heap.size (List.replicate n jU)→Below w.heap.size w w'→w'.heap.size=w.heap.size+1→wpList prog ops Q rest (a.put o.dst (.slice (some ⟨w.heap.size,0,none⟩) n n)) w'):wpList prog ops Q (o::rest) a w:=by
 obtain⟨i0,hi,hz0,hz1,hz2⟩:=info_parts Ra;have hrun:=run_make (P:=prog) w 186 104 i0 _ underlying186 hi hz0 .i64 .i64 (n:Int) (n:Int) (by omega) (by omega) (by rw[hz2];omega) (by omega);refine sI hgd fun K hK=>?_;have R:=hK _ _ (h (w.alloc (.cells (zx (List.replicate n jU)) 104)) (bJ _ _) ((dF _ _).alloc (bE _) _) (by simp));rw[show((n:Int)).toNat=n by omega,hz1,show(Value.agg (bO jU)).cells=bO jU from rfl,OY]at hrun;unfold Oper.wp;simp[execOp,ho,hx,hy,hrun,Result.andThen,Oper.upon_value];exact R
theorem Gl{o:Oper}(w:World)(hgd:o.guard=none)(t e:TypeId)(z:Value)(b:Nat)(hu:prog.underlying t=some (.slice e))(ack:(prog.info? e).map (fun i=>(i.zero,i.size,i.bytes))=some (some z,1,b))(hb:b≤1000)(hzc:z.cells= #[z])(x y:Operand)(ho:o.op= .makeSlice t x y)(n:Nat)(hx:a.eval x= .int .i64 (n:Int))(hy:a.eval y= .int .i64 (n:Int))(hn:n≤100)(h:∀w',w'.heap[w.heap.size]? =some (.cells (List.replicate n z).toArray e (0,0))→Below w.heap.size w w'→w'.heap.size=w.heap.size+1→wpList prog ops Q rest (a.put o.dst (.slice (some ⟨w.heap.size,0,none⟩) n n)) w'):wpList prog ops Q (o::rest) a w:=by
 obtain⟨i0,hi,hz0,hz1,hz2⟩:=info_parts ack;have hbn:b*n≤1000*100:=Nat.mul_le_mul hb hn;have hrun:=run_make (P:=prog) w t e i0 z hu hi hz0 .i64 .i64 (n:Int) (n:Int) (by omega) (by omega) (by rw[hz2];have:((b*n:Nat):Int)≤100000:=(by omega);rw[Int.natCast_mul]at this;omega) (by omega);have hm:madeCells #[z] n=(List.replicate n z).toArray:=by
  apply Array.ext_getElem?;intro i;by_cases h:i<n
  ·simp[madeCells,h,Nat.mod_one]
  ·rw[qh (by rw[size_madeCells];omega),qh (by simp;omega)]
 refine sI hgd fun K hK=>?_;have R:=hK _ _ (h (w.alloc (.cells (List.replicate n z).toArray e)) (bJ _ _) ((dF _ _).alloc (bE _) _) (by simp));rw[show((n:Int)).toNat=n by omega,hz1,hzc,Nat.mul_one,hm]at hrun;unfold Oper.wp;simp[execOp,ho,hx,hy,hrun,Result.andThen,Oper.upon_value];simpa using R
theorem Ia(aa:Nat)(w:World)(hc:aa≤100):Calls prog 116 #[.int .i64 (aa:Int)] w fun e w'=>∃g,e= .returned (.slice (some ⟨g,0,none⟩) aa aa)∧w.heap.size≤g∧g<w'.heap.size∧aK w' g (dK aa)∧Below w.heap.size w w':=by go_enter func116,ntmps116;go_wp2_with (first|(refine Qg _ rfl (.tmp 4) (.tmp 4) rfl aa rfl rfl hc ?_;intro w1 h1 b1 z1)|(go_at_call 160;refine(jT w.heap.size 0 0 aa _ _ _ rfl h1 (by simp) (by simp;omega)).mono ?_;rintro e w2 ⟨rfl,h2,c2⟩));go_ret;rw[Gj _ _ (by simp)]at h2;exact⟨w.heap.size,rfl,bE _,h2.lt,h2,b1.trans (c2.below (by omega) (fun k hk e=>by omega))⟩
theorem IG(aa n k g:Nat)(gs:List Nat)(hk:gs.length=k)(hlt:k<n):(MZ aa gs++List.replicate (n-k) (Value.slice none 0 0)).set k (.slice (some ⟨g,0,none⟩) aa aa)=MZ aa (gs++[g])++List.replicate (n-(k+1)) (Value.slice none 0 0):=by rw[M7 _ _ (by simp[MZ];omega),show k-(MZ aa gs).length=0 by simp[MZ];omega,show n-k=(n-(k+1))+1 by omega,Jo,nE];simp[MZ,Pk]
theorem uH(n aa:Nat)(w:World)(hn:n≤100)(hc:aa≤100):Calls prog 70 #[.int .i64 (n:Int),.int .i64 (aa:Int)] w fun e w'=>∃sb gs,e= .returned (.slice (some ⟨sb,0,none⟩) n n)∧w.heap.size≤sb∧(∀g∈gs,w.heap.size≤g)∧ShAt w' sb gs aa (List.replicate n (dK aa))∧Below w.heap.size w w':=by
 go_enter func70,ntmps70;go_wp2_with (refine Gl _ rfl 142 186 _ 24 underlying142 Q9 (by omega) rfl (.tmp 7) (.tmp 7) rfl n rfl rfl hn ?_;intro w1 h1 b1 z1);go_loopw [11] (fun i wr=>∃(k:Nat) (gs:List Nat),k≤n∧gs.length=k∧i= .int .i64 k∧wr.heap[w.heap.size]? =some (.cells (MZ aa gs++List.replicate (n-k) (Value.slice none 0 0)).toArray 186 (0,0))∧(∀g∈gs,w.heap.size<g∧aK wr g (dK aa))∧gs.Nodup∧Below w.heap.size w wr) (fun i _=>n-(intOf i).toNat)
 case atStart=>exact⟨0,[],jy _,rfl,rfl,by simpa[MZ]using h1,by simp,by simp,b1⟩
 case round=>
  obtain⟨k,gs,hk,V9,rfl,hb,hrows,hnd,hbel⟩:=hrel;by_cases hlt:k<n
  ·have ik:(k:Int)<(n:Int):=by omega
   have HB:Hid _:=hb;have HW:Hid _:=hrows;have HN:Hid _:=hnd;have HL:Hid _:=hbel;have hsz:=hbel.size;have hslt:w.heap.size<wr.heap.size:=by
    by_cases hl:w.heap.size<wr.heap.size
    ·exact hl
    ·rw[qh (by omega)]at hb;cases hb
   clear hb hrows hnd hbel h1 b1;go_wp2_with (first|(go_at_call 116;refine(Ia aa _ hc).mono ?_;rintro e w2 ⟨g,rfl,hg1,hg2,hgr,b2⟩)|(refine rY _ rfl 186 (by kernel_rfl) (.tmp 18) (.tmp 17) rfl w.heap.size k (MZ aa gs++List.replicate (n-k) (Value.slice none 0 0)) _ (.slice (some ⟨g,0,none⟩) aa aa) (by simp[MZ];omega) rfl rfl rfl rfl (IG aa n k g gs V9 hlt) 186 ((b2.block _ hslt).trans HB.o) ?_));intro u3 h3 c3 z3;have r3:∀g'∈gs++[g],w.heap.size<g'∧aK u3 g' (dK aa):=fun g' hg'=>by
    rcases oq.1 hg' with h|h
    ·have:=HW.o g' h;exact⟨this.1,this.2.kept ((c3.block g' (aH this.2.lt b2.size) (by omega)).trans (b2.block g' this.2.lt))⟩
    ·rw[iM]at h;subst h;exact⟨by omega,hgr.kept (c3.block _ hg2 (by omega))⟩
   have n3:(gs++[g]).Nodup:=List.nodup_append.2 ⟨HN.o,by simp,fun a ha b hb=>by rw[iM]at hb;subst hb;have:=(HW.o a ha).2.lt;omega⟩;have l3:Below w.heap.size w u3:=(HL.o.trans ⟨b2.os,b2.tape,b2.output,b2.size,fun k hk=>b2.block k (by omega)⟩).trans (c3.below (by have:=b2.size;omega) (fun k hk e=>by omega));clear HB HW HN HL b2 c3 hgr;go_wp2_with fail;go_roundw
   case rel=>exact⟨k+1,gs++[g],by omega,by simp[V9],by go_num,h3,r3,n3,l3⟩
   case measure=>simp[intOf];omega
  ·have hkn:k=n:=by omega
   subst hkn;clear h1 b1;have F:ShAt wr w.heap.size gs aa (List.replicate k (dK aa)):=by
    refine⟨by simpa using hb,by simp[V9],fun i g r hi hr=>?_,hnd,fun hm=>?_⟩
    ·rw[Jm]at hr;split at hr
     ·cases hr;exact⟨(hrows g (fu hi)).2,by simp[dK]⟩
     ·cases hr
    ·have:=(hrows _ hm).1;omega
   have G:∀g∈gs,w.heap.size≤g:=fun g hg=>iH (hrows g hg).1;have HB:Hid _:=hbel;clear hb hrows hnd hbel;go_wp2_with fail;go_ret;exact⟨w.heap.size,gs,rfl,bE _,G,F,HB.o⟩
structure Lay where
 tb:Nat
 sb0:Nat
 sb1:Nat
 gb:Nat
 gs0:List Nat
 gs1:List Nat
structure Lay.Sep (L:Lay):Prop where
 t0:L.tb≠L.sb0
 t1:L.tb≠L.sb1
 tg:L.tb≠L.gb
 s01:L.sb0≠L.sb1
 s0g:L.sb0≠L.gb
 s1g:L.sb1≠L.gb
 tx:L.tb∉L.gs0
 ty:L.tb∉L.gs1
 gx:L.gb∉L.gs0
 gy:L.gb∉L.gs1
 s0y:L.sb0∉L.gs1
 s1x:L.sb1∉L.gs0
 xy:∀g∈L.gs0,g∉L.gs1
def Lay.own (L:Lay) (k:Nat):Prop:=k=L.tb∨k=L.sb0∨k=L.sb1∨k=L.gb∨k∈L.gs0∨k∈L.gs1
def Lay.sb (L:Lay) (s:TS):Nat:=if s.shown=0 then L.sb0 else L.sb1
def Lay.gs (L:Lay) (s:TS):List Nat:=if s.shown=0 then L.gs0 else L.gs1
def iW (L:Lay) (s:TS):List Value:=
 [.slice (some ⟨L.sb0,0,none⟩) s.rows s.rows,
  .int .i64 s.v0.row,.int .i64 s.v0.col,.bool s.v0.waits,.bool s.v0.pen.b,.bool s.v0.pen.u,.bool s.v0.pen.t,.int .i64 s.v0.pen.f,.int .i64 s.v0.pen.k,.int .i64 s.v0.first,.int .i64 s.v0.second,.int .i64 s.v0.use,.bool s.v0.origin,
  .slice (some ⟨L.sb1,0,none⟩) s.rows s.rows,
  .int .i64 s.v1.row,.int .i64 s.v1.col,.bool s.v1.waits,.bool s.v1.pen.b,.bool s.v1.pen.u,.bool s.v1.pen.t,.int .i64 s.v1.pen.f,.int .i64 s.v1.pen.k,.int .i64 s.v1.first,.int .i64 s.v1.second,.int .i64 s.v1.use,.bool s.v1.origin,
  .int .i64 s.row,.int .i64 s.col,.bool s.waits,.bool s.pen.b,.bool s.pen.u,.bool s.pen.t,.int .i64 s.pen.f,.int .i64 s.pen.k,.int .i64 s.first,.int .i64 s.second,.int .i64 s.use,.bool s.origin,
  .int .i64 s.top,.int .i64 s.bottom,.bool s.wrap,.bool s.insert,.int .i64 s.shown,.slice (some ⟨L.gb,0,none⟩) s.aa s.aa]
structure TS.Inv (s:TS):Prop where
 r1:1≤s.rows
 r2:s.rows≤12
 c1:1≤s.aa
 c2:s.aa≤40
 row0:0≤s.row
 iT:s.row<(s.rows:Int)
 fU:0≤s.col
 gz:s.col<(s.aa:Int)
 gN:0≤s.top
 tb:s.top≤s.bottom
 bot:s.bottom<(s.rows:Int)
 sh:s.shown=0∨s.shown=1
 l0:s.s0.length=s.rows
 l1:s.s1.length=s.rows
 lt:s.tabs.length=s.aa
 VR:0≤s.v0.row∧s.v0.row<(s.rows:Int)
 VQ:0≤s.v0.col∧s.v0.col<(s.aa:Int)
 VT:0≤s.v1.row∧s.v1.row<(s.rows:Int)
 VS:0≤s.v1.col∧s.v1.col<(s.aa:Int)
structure a_ (w:World) (L:Lay) (s:TS):Prop where
 blk:w.heap[L.tb]? =some (.cells (iW L s).toArray 147 (0,0))
 h0:ShAt w L.sb0 L.gs0 s.aa s.s0
 h1:ShAt w L.sb1 L.gs1 s.aa s.s1
 tab:w.heap[L.gb]? =some (.cells (s.tabs.map Value.bool).toArray 4 (0,0))
 sep:L.Sep
theorem a_.c{L:Lay}{s:TS}(h:a_ w L s)(j:Nat)(v:Value)(hv:(iW L s)[j]? =some v):w.cell? ⟨L.tb,j,none⟩=some v:=by rw[dJ _ _ _ _ _ _ h.blk];simpa using hv
theorem a_.f{L:Lay}{s:TS}(h:a_ w L s)(j:Nat):w.frozen? ⟨L.tb,j,none⟩=false:=ou _ _ _ _ _ h.blk
theorem bM{g:Nat}{o:Obj}(h:w.heap[g]? =some o):g<w.heap.size:=(kP.1 h).1
theorem a_.lt{w:World}{L:Lay}{s:TS}(h:a_ w L s):L.tb<w.heap.size:=bM h.blk
theorem a_.jv{L:Lay}{s:TS}(h:a_ w L s)(hk:L.own k):k<w.heap.size:=by
 rcases hk with rfl|rfl|rfl|rfl|hk|hk
 ·exact h.lt
 ·exact h.h0.lt
 ·exact h.h1.lt
 ·exact bM h.tab
 ·exact h.h0.YQ hk
 ·exact h.h1.YQ hk
theorem a_.kept{w w':World}{L:Lay}{s:TS}(h:a_ w L s){P:Nat→Prop}(c:Ch P w w')(hp:∀k,L.own k→¬P k):a_ w' L s:=
 ⟨(c.block _ h.lt (hp _ (.inl rfl))).trans h.blk,h.h0.kept c (hp _ (.inr (.inl rfl))) (fun g hg=>hp g (.inr (.inr (.inr (.inr (.inl hg)))))),
  h.h1.kept c (hp _ (.inr (.inr (.inl rfl)))) (fun g hg=>hp g (.inr (.inr (.inr (.inr (.inr hg)))))),(c.block _ (bM h.tab) (hp _ (.inr (.inr (.inr (.inl rfl)))))).trans h.tab,h.sep⟩
abbrev Sm (w w':World):Prop:=Ch (fun _=>False) w w'
theorem a_.sm{L:Lay}{s:TS}(h:a_ w L s)(c:Sm w w'):a_ w' L s:=h.kept c (fun _ _ h=>h)
theorem Sm.ch{P:Nat→Prop}(c:Sm w w'):Ch P w w':=c.mono (fun _ _ h=>h.elim)
theorem a_.put{L:Lay}{s s':TS}(h:a_ w L s)(hb:w'.heap[L.tb]? =some (.cells (iW L s').toArray 147 (0,0)))(c:Ch (· =L.tb) w w')(hc:s'.aa=s.aa)(h0:s'.s0=s.s0)(h1:s'.s1=s.s1)(ht:s'.tabs=s.tabs):a_ w' L s':=
 ⟨hb,by rw[hc,h0];exact h.h0.kept c (fun e=>h.sep.t0 e.symm) (fun g hg e=>h.sep.tx (e▸hg)),by rw[hc,h1];exact h.h1.kept c (fun e=>h.sep.t1 e.symm) (fun g hg e=>h.sep.ty (e▸hg)),
  by rw[ht];exact(c.block _ (bM h.tab) (fun e=>h.sep.tg e.symm)).trans h.tab,h.sep⟩
theorem a_.set{L:Lay}{s s':TS}(h:a_ w L s)(j:Nat)(v:Value)(hj:(iW L s).set j v=iW L s')(hc:s'.aa=s.aa)(h0:s'.s0=s.s0)(h1:s'.s1=s.s1)(ht:s'.tabs=s.tabs):a_ (w.setCell ⟨L.tb,j,none⟩ v) L s':=by refine h.put ?_ ((Ch.refl _ _).set _ _ _ (fun _=>rfl)) hc h0 h1 ht;rw[wS w L.tb j _ 147 _ h.blk, ←hj];simp
theorem Ch.jI{u:World}{L:Lay}(h:Ch L.own w u)(j:Nat)(v:Value):Ch L.own w (u.setCell ⟨L.tb,j,none⟩ v):=h.set _ _ _ (fun _=>.inl rfl)
theorem a_.cur{L:Lay}{s:TS}(h:a_ w L s):ShAt w (L.sb s) (L.gs s) s.aa s.cur:=by
 unfold Lay.sb Lay.gs TS.cur;split
 ·exact h.h0
 ·exact h.h1
theorem Lay.mO{L:Lay}{s:TS}(h:k∈L.gs s):L.own k:=by
 unfold Lay.gs at h;split at h
 ·exact .inr (.inr (.inr (.inr (.inl h))))
 ·exact .inr (.inr (.inr (.inr (.inr h))))
theorem TS.Inv.nW{s:TS}(h:s.Inv):s.cur.length=s.rows:=by
 unfold TS.cur;split
 ·exact h.l0
 ·exact h.l1
theorem a_.setCur{L:Lay}{s:TS}(h:a_ w L s)(c:Ch (· ∈L.gs s) w w')(hS:ShAt w' (L.sb s) (L.gs s) s.aa S):a_ w' L (s.setCur S):=by
 unfold Lay.sb Lay.gs at*;unfold TS.setCur;by_cases hs:s.shown=0
 ·simp only[aS hs]at c hS ⊢;refine⟨(c.block _ h.lt h.sep.tx).trans ?_,hS,h.h1.kept c h.sep.s1x (fun g hg e=>h.sep.xy g e hg),(c.block _ (bM h.tab) h.sep.gx).trans h.tab,h.sep⟩;exact h.blk
 ·simp only[aG hs]at c hS ⊢;refine⟨(c.block _ h.lt h.sep.ty).trans ?_,h.h0.kept c h.sep.s0y (fun g hg e=>h.sep.xy g hg e),hS,(c.block _ (bM h.tab) h.sep.gy).trans h.tab,h.sep⟩;exact h.blk
theorem TS.xz(s:TS)(S:bK):(s.setCur S).rows=s.rows∧(s.setCur S).aa=s.aa∧(s.setCur S).shown=s.shown∧(s.setCur S).row=s.row∧(s.setCur S).col=s.col∧(s.setCur S).top=s.top∧(s.setCur S).bottom=s.bottom∧(s.setCur S).v0=s.v0∧(s.setCur S).v1=s.v1∧(s.setCur S).tabs=s.tabs∧(s.setCur S).cur=S:=by unfold TS.setCur TS.cur;by_cases hs:s.shown=0<;>simp[hs]
theorem TS.Inv.setCur{s:TS}(h:s.Inv)(hl:S.length=s.rows):(s.setCur S).Inv:=by
 unfold TS.setCur;split
 ·exact⟨h.r1,h.r2,h.c1,h.c2,h.row0,h.iT,h.fU,h.gz,h.gN,h.tb,h.bot,h.sh,hl,h.l1,h.lt,h.VR,h.VQ,h.VT,h.VS⟩
 ·exact⟨h.r1,h.r2,h.c1,h.c2,h.row0,h.iT,h.fU,h.gz,h.gN,h.tb,h.bot,h.sh,h.l0,hl,h.lt,h.VR,h.VQ,h.VT,h.VS⟩
theorem a_.drewN{L:Lay}{s:TS}(h:a_ w L s)(n:Nat):a_ (w.drewN n) L s:=h.sm ((Ch.refl _ _).drewN n)
theorem kT(L:Lay)(s:TS)(w:World)(ht:a_ w L s)(hi:s.Inv):Calls prog 138 #[.pointer (some ⟨L.tb,0,none⟩)] w fun e w'=>e= .returned (.int .i64 ((s.rows:Int)-1))∧w'=w:=by have c0:=ht.c 0 _ rfl;have h1:=hi.r1;have h2:=hi.r2;have v1:IntKind.i64.wrap ((s.rows:Int)-1)=(s.rows:Int)-1:=bV _ (by omega);clear ht hi;go_enter func138,ntmps138;go_wp2_with fail;go_ret;exact⟨rfl,rfl⟩
theorem jE(L:Lay)(s:TS)(w:World)(ht:a_ w L s)(hi:s.Inv):Calls prog 128 #[.pointer (some ⟨L.tb,0,none⟩)] w fun e w'=>e= .returned (.int .i64 ((s.aa:Int)-1))∧w'=w:=by have c0:=ht.c 43 _ rfl;have h1:=hi.c1;have h2:=hi.c2;have v1:IntKind.i64.wrap ((s.aa:Int)-1)=(s.aa:Int)-1:=bV _ (by omega);clear ht hi;go_enter func128,ntmps128;go_wp2_with fail;go_ret;exact⟨rfl,rfl⟩
theorem oH(n lo hi:Int)(w:World):Calls prog 169 #[.int .i64 n,.int .i64 lo,.int .i64 hi] w fun e w'=>e= .returned (.int .i64 (TS.bn n lo hi))∧w'=w:=by
 generalize hX:TS.bn n lo hi=X;have HX:Hid _:=hX;clear hX;go_enter func169,ntmps169;go_wp2_with fail
 all_goals go_ret
 all_goals refine⟨?_,rfl⟩
 all_goals rw[←HX.o];unfold TS.bn
 all_goals refine congrArg (fun z=>Ending.returned (Value.int .i64 z)) ?_
 all_goals omega
theorem dY(n:Int)(w:World):Calls prog 177 #[.int .i64 n] w fun e w'=>e= .returned (.int .i64 (TS.times n))∧w'=w:=by
 generalize hX:TS.times n=X;have HX:Hid _:=hX;clear hX;go_enter func177,ntmps177;go_wp2_with fail
 all_goals go_ret
 all_goals refine⟨?_,rfl⟩
 all_goals rw[←HX.o];unfold TS.times
 all_goals refine congrArg (fun z=>Ending.returned (Value.int .i64 z)) ?_
 all_goals omega
theorem dw(n:Int)(w:World):Calls prog 181 #[.int .i64 n] w fun e w'=>e= .returned (.int .i64 (TS.amount n))∧w'=w:=by
 generalize hX:TS.amount n=X;have HX:Hid _:=hX;clear hX;go_enter func181,ntmps181;go_wp2_with fail
 all_goals go_ret
 all_goals refine⟨?_,rfl⟩
 all_goals rw[←HX.o];unfold TS.amount
 all_goals refine congrArg (fun z=>Ending.returned (Value.int .i64 z)) ?_
 all_goals omega
theorem mg(L:Lay)(s:TS)(w:World)(ht:a_ w L s)(hi:s.Inv):Calls prog 165 #[.pointer (some ⟨L.tb,0,none⟩)] w fun e w'=>e= .returned (.pointer (some ⟨L.tb,if s.shown=0 then 0 else 13,none⟩))∧∃m,w'=w.drewN m:=by
 have c0:=ht.c 42 _ rfl;rcases hi.sh with h|h
 ·rw[aS h];rw[h]at c0;clear ht hi;go_enter func165,ntmps165;go_wp2_with fail;go_quiet (fail);go_wp2_with fail;go_ret;exact⟨rfl,_,rfl⟩
 ·rw[aG (by omega)];rw[h]at c0;clear ht hi;go_enter func165,ntmps165;go_wp2_with fail;go_quiet (fail);go_wp2_with fail;go_ret;exact⟨rfl,_,rfl⟩
theorem a_.Ab{L:Lay}{s:TS}(ht:a_ w L s)(hi:s.Inv):∃g,(L.gs s)[s.row.toNat]? =some g∧aK w g s.aY∧s.aY.length=s.aa:=by obtain⟨g,h1,_,h3,h4⟩:=ht.cur.get (i:=s.row.toNat) (by rw[hi.nW];have:=hi.row0;have:=hi.iT;omega);exact⟨g,h1,h3,h4⟩
theorem kG(L:Lay)(s:TS)(w:World)(ht:a_ w L s)(hi:s.Inv)(g:Nat)(hg:(L.gs s)[s.row.toNat]? =some g):Calls prog 123 #[.pointer (some ⟨L.tb,0,none⟩)] w fun e w'=>e= .returned (.slice (some ⟨g,0,none⟩) s.aa s.aa)∧∃m,w'=w.drewN m:=by
 have c26:=ht.c 26 _ rfl;have hcell:=ht.cur.slice hg;have hsh:∀n,_:=fun n=>mg L s (w.drewN n) (ht.drewN n) hi;have hr0:=hi.row0;have hr1:=hi.iT;obtain⟨q,hq⟩:∃q:Nat,s.row=(q:Int):=⟨s.row.toNat,by omega⟩;rw[hq]at c26 hr1;rw[hq]at hcell hg;simp only[wQ]at hcell hg;unfold Lay.sb at hcell;have hq1:q<s.rows:=by omega
 rcases hi.sh with h|h
 ·have c0:=ht.c 0 _ rfl;rw[aS h]at hcell;simp only[aS h]at hsh;clear ht hi hr0 h hq hg;go_enter func123,ntmps123;go_wp2_with fail;go_quiet ((go_at_call 165;exact Calls.quiet_of (hsh _)));go_wp2_with fail;go_ret;exact⟨rfl,_,rfl⟩
 ·have c0:=ht.c 13 _ rfl;rw[aG (by omega)]at hcell;simp only[aG (show¬s.shown=0 by omega)]at hsh;clear ht hi hr0 h hq hg;go_enter func123,ntmps123;go_wp2_with fail;go_quiet ((go_at_call 165;exact Calls.quiet_of (hsh _)));go_wp2_with fail;go_ret;exact⟨rfl,_,rfl⟩
theorem eO(L:Lay)(s:TS)(w:World)(ht:a_ w L s)(hi:s.Inv)(c:Int):Calls prog 127 #[.pointer (some ⟨L.tb,0,none⟩),.int .i64 c] w fun e w'=>e= .returned (.tuple #[])∧a_ w' L (s.bD c)∧Ch L.own w w':=by have c27:=ht.c 27 _ rfl;have f27:=ht.f 27;have l1:=jE L s w ht hi;have HT:Hid _:=ht;clear ht;go_enter func127,ntmps127;go_wp2_with (first|(go_at_call 128;refine l1.mono ?_;rintro e w1 ⟨rfl,rfl⟩)|(go_at_call 169;refine(oH c 0 ((s.aa:Int)-1) _).mono ?_;rintro e w1 ⟨rfl,rfl⟩));go_end0;exact⟨rfl,HT.o.set 27 _ rfl rfl rfl rfl rfl,(Ch.refl _ _).jI _ _⟩
theorem wM(L:Lay)(s:TS)(w:World)(ht:a_ w L s)(hi:s.Inv)(c:Int):Calls prog 172 #[.pointer (some ⟨L.tb,0,none⟩),.int .i64 c] w fun e w'=>e= .returned (.tuple #[])∧a_ w' L (s.kX c)∧Ch L.own w w':=by have c26:=ht.c 26 _ rfl;have f26:=ht.f 26;have l1:=kT L s w ht hi;have HT:Hid _:=ht;clear ht;go_enter func172,ntmps172;go_wp2_with (first|(go_at_call 138;refine l1.mono ?_;rintro e w1 ⟨rfl,rfl⟩)|(go_at_call 169;refine(oH c 0 ((s.rows:Int)-1) _).mono ?_;rintro e w1 ⟨rfl,rfl⟩));go_end0;exact⟨rfl,HT.o.set 26 _ rfl rfl rfl rfl rfl,(Ch.refl _ _).jI _ _⟩
end Go.Proofs.YtheibfffilomcabGreatDoor
