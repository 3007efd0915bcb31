import Derived.Test.YtheibfffilomcaaGreatDoorTmaU
import Derived.Test.YtheibfffilomcaaGreatDoorCgU
import Derived.Laws.MakeOwn
set_option linter.all false
set_option maxRecDepth 100000
set_option maxHeartbeats 1000000
namespace Go.Proofs.YtheibfffilomcaaGreatDoor
open Go.RowKit Go.Proofs.Tryz
variable {w:World} {ah g i:Nat}
abbrev bS:=List (List aI)
def iY (ah:Nat):List aI:=List.replicate ah aD
def nX (S:bS) (a n:Nat):Nat→bS
 | 0=>S
 |i+1=>(nX S a n i).set (a+i) ((nX S a n i).getD (a+i+n) [])
def iI (S:bS) (a n len:Nat):Nat→bS
 | 0=>S
 |i+1=>(iI S a n len i).set (a+(len-1-i)) ((iI S a n len i).getD (a+(len-1-i)-n) [])
def cK (S:bS) (a ah:Nat):Nat→bS
 | 0=>S
 |i+1=>(cK S a ah i).set (a+i) (iY ah)
def FX (S:bS) (a len n ah:Nat):bS:=cK (nX S a n (len-min n len)) (a+(len-min n len)) ah (len-(len-min n len))
def oC (S:bS) (a len n ah:Nat):bS:=cK (iI S a (min n len) len (len-min n len)) a ah (min n len)
theorem jO(S:bS)(a n i:Nat):(nX S a n i).length=S.length:=by induction i with|zero=>rfl|succ i ih=>rw[nX,lG,ih]
theorem ja(S:bS)(a n len i:Nat):(iI S a n len i).length=S.length:=by induction i with|zero=>rfl|succ i ih=>rw[iI,lG,ih]
theorem fB(S:bS)(a ah i:Nat):(cK S a ah i).length=S.length:=by induction i with|zero=>rfl|succ i ih=>rw[cK,lG,ih]
theorem uj(S:bS)(a len n ah:Nat):(FX S a len n ah).length=S.length:=by rw[FX,fB,jO]
theorem qi(S:bS)(a len n ah:Nat):(oC S a len n ah).length=S.length:=by rw[oC,fB,ja]
def Ry (ah g:Nat):Value:=.slice (some ⟨g,0,none⟩) ah ah
def OP (ah:Nat) (gs:List Nat):List Value:=gs.map (Ry ah)
structure ShAt (w:World) (sb:Nat) (gs:List Nat) (ah:Nat) (S:bS):Prop where
 blk:w.heap[sb]? =some (.cells (OP ah gs).toArray 166 (0,0))
 len:gs.length=S.length
 row:∀(i:Nat) (g:Nat) (r:List aI),gs[i]? =some g→S[i]? =some r→aV w g r∧r.length=ah
 nodup:gs.Nodup
 o:sb∉gs
theorem ShAt.lt{w:World}{sb:Nat}{gs:List Nat}{ah:Nat}{S:bS}(h:ShAt w sb gs ah S):sb<w.heap.size:=by
 by_cases hl:sb<w.heap.size
 ·exact hl
 ·have:=h.blk;rw[zU (by omega)]at this;cases this
theorem ShAt.glt{sb:Nat}{gs:List Nat}{S:bS}(h:ShAt w sb gs ah S)(hg:g∈gs):g<w.heap.size:=by obtain⟨i,hi⟩:=List.getElem?_of_mem hg;have hl:=(gJ.1 hi).1;rw[h.len]at hl;exact(h.row i g _ hi (eG hl)).1.lt
theorem ShAt.kept{w w':World}{sb:Nat}{gs:List Nat}{ah:Nat}{S:bS}(h:ShAt w sb gs ah S){P:Nat→Prop}(c:Ch P w w')(h1:¬P sb)(h2:∀g∈gs,¬P g):ShAt w' sb gs ah S:=
 ⟨(c.block sb h.lt h1).trans h.blk,h.len,fun i g r hi hr=>⟨(h.row i g r hi hr).1.kept (c.block g (h.glt (iH hi)) (h2 g (iH hi))),(h.row i g r hi hr).2⟩,h.nodup,h.o⟩
theorem ShAt.set{w':World}{sb:Nat}{gs:List Nat}{S:bS}(h:ShAt w sb gs ah S){r:List aI}(hi:gs[i]? =some g)(hr:aV w' g r)(hl:r.length=ah)(c:Ch (· =g) w w'):ShAt w' sb gs ah (S.set i r):=by
 have hne:sb≠g:=fun e=>h.o (e▸iH hi);refine⟨(c.block sb h.lt hne).trans h.blk,by rw[lG];exact h.len,fun j g' r' hj hr'=>?_,h.nodup,h.o⟩;rw[xX]at hr';by_cases hij:i=j
 ·subst hij;rw[ak rfl]at hr';split at hr'
  ·cases hr';rw[hi]at hj;cases hj;exact⟨hr,hl⟩
  ·cases hr'
 ·rw[ai hij]at hr';have hg:g'≠g:=fun e=>by subst e;exact hij ((List.getElem?_inj (gJ.1 hi).1 h.nodup).1 (hi.trans hj.symm))
  exact⟨(h.row j g' r' hj hr').1.kept (c.block g' (h.glt (iH hj)) hg),(h.row j g' r' hj hr').2⟩
theorem ShAt.slice{sb:Nat}{gs:List Nat}{S:bS}(h:ShAt w sb gs ah S)(hi:gs[i]? =some g):w.cell? ⟨sb,i,none⟩=some (.slice (some ⟨g,0,none⟩) ah ah):=by rw[bG _ _ _ _ _ _ h.blk];simp[OP,hi,Ry]
theorem ShAt.get{sb:Nat}{gs:List Nat}{S:bS}(h:ShAt w sb gs ah S)(hi:i<S.length):∃g,gs[i]? =some g∧w.cell? ⟨sb,i,none⟩=some (.slice (some ⟨g,0,none⟩) ah ah)∧aV w g (S.getD i [])∧(S.getD i []).length=ah:=by
 have hg:i<gs.length:=by rw[h.len];exact hi
 have hr:=h.row i _ _ (eG hg) (eG hi);refine⟨_,eG hg,h.slice (eG hg),?_⟩;simpa[List.getD,eG hi]using hr
theorem IV(r:List aI)(ah:Nat)(h:r.length=ah):jv r 0 ah=iY ah:=by simp[jv,iY,qB (Nat.le_of_eq h)]
theorem lay_all(r r2:List aI)(ah:Nat)(h:r.length=ah)(h2:r2.length=ah):jZ r 0 ((r2.drop 0).take ah)=r2:=by rw[List.drop_zero,l6 (Nat.le_of_eq h2),jZ,List.take_zero,mP,qB (by omega),gp]
theorem oN(sb a n cap ah:Nat)(gs:List Nat)(S:bS)(w:World)(hs:ShAt w sb gs ah S)(han:a+n≤S.length)(hn:n≤100)(hc:ah≤100):
 Calls prog 229 #[.slice (some ⟨sb,a,none⟩) n cap] w fun e w'=>e= .returned (.tuple #[])∧ShAt w' sb gs ah (cK S a ah n)∧Ch (· ∈gs) w w':=by
 go_enter func229,ntmps229;go_wp2_with fail;go_loopw [6] (fun i wr=>∃k:Nat,k≤n∧i= .int .i64 k∧ShAt wr sb gs ah (cK S a ah k)∧Ch (· ∈gs) w wr) (fun i _=>n-(intOf i).toNat)
 case atStart=>exact⟨0,dx _,rfl,hs,Ch.refl _ _⟩
 case round=>
  obtain⟨k,hk,rfl,Av,hch⟩:=hrel;by_cases hlt:k<n
  ·have ik:(k:Int)<(n:Int):=by omega
   obtain⟨g,hg,hcell,hrow,hlen⟩:=Av.get (i:=a+k) (by rw[fB];omega);have HS:Hid _:=Av;have HC:Hid _:=hch;have HR:Hid (aV wr g ((cK S a ah k).getD (a+k) [])):=hrow;have HL:Hid _:=hlen;have HG:Hid _:=hg;clear Av hch hrow hlen hg;go_wp2_with (go_at_call 168;refine(nY g 0 0 ah _ _ _ rfl HR.o (by rw[HL.o];omega) (by rw[HL.o];omega)).mono ?_;rintro e w1 ⟨rfl,h1,c1⟩);have S2:=HS.o.set HG.o (by rw[IV _ _ HL.o]at h1;exact h1) (by simp[iY]) c1;have C2:Ch (· ∈gs) w w1:=HC.o.trans (c1.mono fun k _ e=>e▸iH HG.o);clear HS HC HR HL HG h1 c1;go_wp2_with fail;go_roundw
   case rel=>exact⟨k+1,by omega,by go_num,S2,C2⟩
   case measure=>simp[intOf];omega
  ·have hkn:k=n:=by omega
   subst hkn;go_wp2_with fail;go_end0;exact⟨rfl,Av,hch⟩
structure di where
 row:Int
 col:Int
 waits:Bool
 pen:fO
 first:Int
 second:Int
 use:Int
 origin:Bool
deriving DecidableEq
def aY:di:=⟨0,0,false,mO,0,0,0,false⟩
structure TS where
 rows:Nat
 ah:Nat
 s0:bS
 v0:di
 s1:bS
 v1:di
 row:Int
 col:Int
 waits:Bool
 pen:fO
 first:Int
 second:Int
 use:Int
 origin:Bool
 top:Int
 bottom:Int
 wrap:Bool
 insert:Bool
 shown:Int
 tabs:List Bool
namespace TS
def fresh (rows ah:Nat):TS:=
 ⟨rows,ah,List.replicate rows (iY ah),aY,List.replicate rows (iY ah),aY,0,0,false,mO,0,0,0,false,0,(rows:Int)-1,true,false,0,(List.range ah).map fun c=>decide (0<c∧c % 8=0)⟩
def spot (s:TS):di:=⟨s.row,s.col,s.waits,s.pen,s.first,s.second,s.use,s.origin⟩
def cur (s:TS):bS:=if s.shown=0 then s.s0 else s.s1
def setCur (s:TS) (S:bS):TS:=if s.shown=0 then{s with s0:=S} else{s with s1:=S}
def saved (s:TS):di:=if s.shown=0 then s.v0 else s.v1
def aP (s:TS):List aI:=s.cur.getD s.row.toNat []
def aN (s:TS) (r:List aI):TS:=s.setCur (s.cur.set s.row.toNat r)
def bg (n low high:Int):Int:=max low (min n high)
def bQ (s:TS) (c:Int):TS:={s with col:=bg c 0 ((s.ah:Int)-1)}
def nD (s:TS) (r:Int):TS:={s with row:=bg r 0 ((s.rows:Int)-1)}
def bJ (s:TS) (r:Int):TS:=if s.origin then{s with row:=bg (s.top+r) s.top s.bottom} else s.nD r
def home (s:TS):TS:={(s.bJ 0).bQ 0 with waits:=false}
def rise (s:TS) (n:Int):TS:={s with row:=max (s.row-n) (if s.top≤s.row then s.top else 0)}
def sink (s:TS) (n:Int):TS:={s with row:=min (s.row+n) (if s.row≤s.bottom then s.bottom else(s.rows:Int)-1)}
def height (s:TS):Nat:=(s.bottom+1-s.top).toNat
def gQ (s:TS) (n:Nat):TS:=s.setCur (FX s.cur s.top.toNat s.height n s.ah)
def h_ (s:TS) (n:Nat):TS:=s.setCur (oC s.cur s.top.toNat s.height n s.ah)
def down (s:TS):TS:=if s.row=s.bottom then s.gQ 1 else s.nD (s.row+1)
def up (s:TS):TS:=if s.row=s.top then s.h_ 1 else s.nD (s.row-1)
def bE (s:TS):TS:=(s.bQ 0).down
def jH (tabs:List Bool) (c:Nat):Int:=match (tabs.drop c).findIdx? id with
 |some i=>(c:Int)+(i:Int)
 |none=>(tabs.length:Int)-1
def oV (s:TS):TS:=s.bQ (jH s.tabs (s.col.toNat+1))
def save (s:TS):TS:=if s.shown=0 then{s with v0:=s.spot} else{s with v1:=s.spot}
def jf (s:TS) (p:di):TS:={s with row:=p.row,col:=p.col,waits:=p.waits,pen:=p.pen,first:=p.first,second:=p.second,use:=p.use,origin:=p.origin}
def restore (s:TS):TS:=s.jf {s.saved with waits:=s.saved.waits&&s.wrap,row:=if s.saved.origin then bg s.saved.row s.top s.bottom else s.saved.row}
def mY (c:Int):Int:=
 if c=106 then 9496 else if c=107 then 9488 else if c=108 then 9484 else if c=109 then 9492 else if c=110 then 9532 else if c=113 then 9472 else
 if c=116 then 9500 else if c=117 then 9508 else if c=118 then 9524 else if c=119 then 9516 else if c=120 then 9474 else c
def spelt (s:TS) (c:Int):Int:=if(if s.use=1 then s.second else s.first)=1 then mY c else c
def kG (s:TS) (c:Int) (wd:Nat):TS:=s.aN (yC s.aP s.col.toNat (s.spelt c) wd s.pen)
def kV (s:TS) (wd:Nat):TS:=s.aN (jd s.aP s.col.toNat wd)
def step (s:TS) (wd:Nat):TS:={s.bQ (s.col+(wd:Int))with waits:=s.wrap&&decide ((s.ah:Int)-1<s.col+(wd:Int))}
def aF (s:TS):TS:={s with waits:=false}
def gH (s:TS):TS:=if s.waits then s.aF.bE else s
def fo (s:TS) (c:Int) (wd:Nat):TS:=((if s.insert then s.kV wd else s).kG c wd).step wd
def print (s:TS) (c:Int) (wd:Nat):TS:=
 if wd=0∨s.ah<wd then s
 else if(s.ah:Int)<s.gH.col+(wd:Int)then(if s.gH.wrap then s.gH.bE.fo c wd else s.gH)
 else s.gH.fo c wd
def control (s:TS) (c:Int):TS:=
 let t:=if 8≤c∧c≤13 then s.aF else s
 if c=8 then t.bQ (t.col-1)else if c=9 then t.oV else if c=10∨c=11∨c=12 then t.down else if c=13 then t.bQ 0
 else if c=14 then{t with use:=1} else if c=15 then{t with use:=0} else t
def dQ (f b:Int):Int:=if f=66 then 0 else if f=48 then 1 else b
def bare (s:TS) (f:Int):TS:=
 if f=55 then s.save else if f=56 then s.restore else if f=68 then s.aF.down else if f=77 then s.aF.up else if f=69 then s.aF.bE
 else if f=72 then{s with tabs:=s.tabs.set s.col.toNat true} else if f=99 then fresh s.rows s.ah else s
def escape (s:TS) (mark f:Int):TS:=
 if mark=0 then s.bare f else if mark=40 then{s with first:=dQ f s.first} else if mark=41 then{s with second:=dQ f s.second} else s
def times (n:Int):Int:=max n 1
def amount (n:Int):Int:=max n 0
def move (s:TS) (f p0 p1:Int):TS:=
 if f=65 then s.rise (times p0)else if f=66 then s.sink (times p0)else if f=67 then s.bQ (s.col+times p0)else if f=68 then s.bQ (s.col-times p0)
 else if f=71 then s.bQ (times p0-1)else if f=100 then s.bJ (times p0-1)else if f=72∨f=102 then(s.bJ (times p0-1)).bQ (times p1-1)else s
def dD (s:TS) (what:Int):TS:=
 if what=0 then s.aN (dP s.aP s.col.toNat s.ah)else if what=1 then s.aN (dP s.aP 0 (s.col.toNat+1))else if what=2 then s.aN (dP s.aP 0 s.ah)else s
def dY (s:TS) (what:Int):TS:=
 if what=0 then s.setCur (cK s.cur (s.row.toNat+1) s.ah (s.rows-(s.row.toNat+1)))else if what=1 then s.setCur (cK s.cur 0 s.ah s.row.toNat)else if what=2 then s.setCur (cK s.cur 0 s.ah s.rows)else s
def inRegion (s:TS):Bool:=decide (s.top≤s.row∧s.row≤s.bottom)
def below (s:TS):Nat:=(s.bottom+1-s.row).toNat
def edit (s:TS) (f p0:Int):TS:=
 let n:=(times p0).toNat
 if f=74 then(s.dD (amount p0)).dY (amount p0)else if f=75 then s.dD (amount p0)else if f=64 then s.aN (jd s.aP s.col.toNat n)
 else if f=80 then s.aN (jT s.aP s.col.toNat n)else if f=88 then s.aN (dP s.aP s.col.toNat (min (s.col.toNat+n) s.ah))
 else if f=76 then(if s.inRegion then(s.setCur (oC s.cur s.row.toNat s.below n s.ah)).bQ 0 else s)
 else if f=77 then(if s.inRegion then(s.setCur (FX s.cur s.row.toNat s.below n s.ah)).bQ 0 else s)
 else if f=83 then s.gQ n else if f=84 then s.h_ n else s
def gU (s:TS) (top bottom:Int):TS:=
 let b:=if bottom<0∨(s.rows:Int)-1<bottom then(s.rows:Int)-1 else bottom
 if b≤top then s else{s with top:=top,bottom:=b}.home
def fM (s:TS) (what:Int):TS:=if what=0 then{s with tabs:=s.tabs.set s.col.toNat false} else if what=3 then{s with tabs:=List.replicate s.tabs.length false} else s
def turn (p:fO) (n:Int):fO:=
 if n=0 then mO else if n=1∨n=22 then{p with b:=decide (n=1)} else if n=4∨n=24 then{p with u:=decide (n=4)} else if n=7∨n=27 then{p with t:=decide (n=7)}
 else if 30≤n∧n≤37 then{p with f:=n-29} else if n=39 then{p with f:=0} else if 40≤n∧n≤47 then{p with k:=n-39} else if n=49 then{p with k:=0} else p
def turns (s:TS):List Int→TS
 | []=>s
 |n::l=>({s with pen:=turn s.pen (amount n)}:TS).turns l
def kC (s:TS) (f:Int) (ps:List Int) (ct:Nat):TS:=
 if f=114 then s.gU (times (ps.getD 0 0)-1) (amount (ps.getD 1 0)-1)else if f=103 then s.fM (amount (ps.getD 0 0))else if f=109 then s.turns (ps.take ct)
 else if f=104∨f=108 then(if ps.getD 0 0=4 then{s with insert:=decide (f=104)} else s)else s
def set1 (s:TS) (n:Int) (on:Bool):TS:=
 if n=6 then({s with origin:=on}:TS).home else if n=7 then{s with wrap:=on,waits:=s.waits&&on} else if n=47 then{s with shown:=if on then 1 else 0} else s
def sets (s:TS) (on:Bool):List Int→TS
 | []=>s
 |n::l=>(s.set1 n on).sets on l
def mZ (f:Int):Bool:=decide (f∈[65,66,67,68,71,100,72,102,64,80,88,76,77])
def sequence (s:TS) (mark f:Int) (ps:List Int) (ct:Nat):TS:=
 if mark=0 then
  let t:=if mZ f then s.aF else s
  ((t.move f (ps.getD 0 0) (ps.getD 1 0)).edit f (ps.getD 0 0)).kC f ps ct
 else if mark=63 then(if f=104∨f=108 then s.sets (decide (f=104)) (ps.take ct)else s)else s
end TS
theorem Sv(sb a len n cap ah:Nat)(gs:List Nat)(S:bS)(w:World)(hs:ShAt w sb gs ah S)(han:a+len≤S.length)(hl1:1≤len)(hl:len≤100)(hn:n≤70000)(hn1:1≤n)(hc:ah≤100)(hcap:len≤cap):
 Calls prog 173 #[.slice (some ⟨sb,a,none⟩) len cap,.int .i64 (n:Int)] w fun e w'=>e= .returned (.tuple #[])∧ShAt w' sb gs ah (FX S a len n ah)∧Ch (· ∈gs) w w':=by
 by_cases hm:n<len
 ·have e:FX S a len n ah=cK (nX S a n (len-n)) (a+(len-n)) ah n:=by rw[FX,rT (by omega),show len-(len-n)=n by omega]
  rw[e];clear e;have e1:(len:Int)-(n:Int)=((len-n:Nat):Int):=by omega
  have v1:IntKind.i64.wrap ((len-n:Nat):Int)=((len-n:Nat):Int):=bD _ (by omega);have i1:(n:Int)<(len:Int):=by omega
  have i2:n≤len:=by omega
  have i3:len-(len-n)=n:=by omega
  have i4:cap≠len-n:=by omega
  have i5:len-n≤len:=by omega
  have i6:len-n≤cap:=by omega
  have oG:Hid _:=hs;clear hs;go_enter func173,ntmps173;go_wp2_with fail;go_loopw [14] (fun i wr=>∃k:Nat,k≤len-n∧i= .int .i64 k∧ShAt wr sb gs ah (nX S a n k)∧Ch (· ∈gs) w wr) (fun i _=>len-n-(intOf i).toNat)
  case atStart=>exact⟨0,dx _,rfl,oG.o,Ch.refl _ _⟩
  case round=>
   obtain⟨k,hk,rfl,Av,hch⟩:=hrel;by_cases hlt:k<len-n
   ·have ik:(k:Int)<((len-n:Nat):Int):=by omega
    obtain⟨g,hg,hcell,hrow,hlen⟩:=Av.get (i:=a+k) (by rw[jO];omega);obtain⟨g2,hg2,hcell2,hrow2,GX⟩:=Av.get (i:=a+k+n) (by rw[jO];omega);have HS:Hid _:=Av;have HC:Hid _:=hch;have HR:Hid (aV wr g ((nX S a n k).getD (a+k) [])):=hrow;have HL:Hid _:=hlen;have HR2:Hid (aV wr g2 ((nX S a n k).getD (a+k+n) [])):=hrow2;have HL2:Hid _:=GX;have HG:Hid _:=hg;have kl:k<len:=by omega
    have kl2:(k:Int)<(len:Int):=by omega
    have v2:IntKind.i64.wrap ((k:Int)+(n:Int))=(k:Int)+(n:Int):=bD _ (by omega);have t1:((k:Int)+(n:Int)).toNat=k+n:=by omega
    have j1:(0:Int)≤(k:Int)+(n:Int):=by omega
    have j2:(k:Int)+(n:Int)<(len:Int):=by omega
    have j3:k+n<len:=by omega
    have j4:a+(k+n)=a+k+n:=by omega
    clear Av hch hrow hlen hrow2 GX hg hg2;go_wp2_with fail;have HH:World.cell? ({wr with drawn:=wr.drawn+1}:World) ⟨sb,a+k,none⟩=some (.slice (some ⟨g,0,none⟩) ah ah)∧World.cell? ({wr with drawn:=wr.drawn+1}:World) ⟨sb,a+k+n,none⟩=some (.slice (some ⟨g2,0,none⟩) ah ah):=⟨hcell,hcell2⟩;refine dX (S:=fun x=>x.cell? ⟨sb,a+k,none⟩=some (.slice (some ⟨g,0,none⟩) ah ah)∧x.cell? ⟨sb,a+k+n,none⟩=some (.slice (some ⟨g2,0,none⟩) ah ah)) aX ?_;refine aj 0 HH ?_ (v:=.slice (some ⟨sb,a,none⟩) len cap);refine aj 1 HH ?_ (v:=.int .i64 (k:Int));refine aj 2 HH ?_ (v:=.pointer (some ⟨sb,a+k,none⟩));refine aj 3 HH ?_ (v:=.slice (some ⟨g,0,none⟩) ah ah);simp only[ag,af];refine aj 4 HH ?_ (v:=.slice (some ⟨sb,a,none⟩) len cap);refine aj 5 HH ?_ (v:=.int .i64 (k:Int));refine aj 6 HH ?_ (v:=.int .i64 (n:Int));refine aj 7 HH ?_ (v:=.int .i64 ((k:Int)+(n:Int)));simp only[ag,af];refine aj 8 HH ?_ (v:=.pointer (some ⟨sb,a+k+n,none⟩));refine aj 9 HH ?_ (v:=.slice (some ⟨g2,0,none⟩) ah ah);simp only[ag,af];refine wpAnyH_all (rs:=[10]) (by kernel_rfl) (by simp) ?_;intro i hi;rw[jg]at hi;subst hi;refine dI ?_;refine pI 27 (.tmp 20) (.tmp 26) rfl rfl _ _ _ _ _ _ rfl rfl g g2 0 0 ah _ _ HR.o HR2.o (by omega) (by rw[HL.o];omega) (by rw[HL2.o];omega) (fun _=>⟨rfl,rfl⟩) ?_;intro u3 h3 c3;rw[lay_all _ _ _ HL.o HL2.o]at h3;have c3':Ch (· =g) wr u3:=⟨c3.os,c3.tape,c3.output,c3.size,c3.block⟩;have S2:=HS.o.set HG.o h3 HL2.o c3';have C2:Ch (· ∈gs) w u3:=HC.o.trans (c3'.mono fun k _ e=>e▸iH HG.o);have hne:sb≠g:=fun e=>HS.o.o (e▸iH HG.o);have hb3:=c3'.block sb HS.o.lt hne;refine⟨⟨(dA hb3).trans hcell,(dA hb3).trans hcell2⟩,?_⟩;clear HS HC HR HL HR2 HL2 HG h3 c3 c3' hb3 HH hcell hcell2 oG;simp only[ag,af];refine aC ?_;go_wp2_with fail;go_roundw
    case rel=>exact⟨k+1,by omega,by go_num,S2,C2⟩
    case measure=>simp[intOf];omega
   ·have hkn:k=len-n:=by omega
    subst hkn;have HS:Hid _:=Av;have HC:Hid _:=hch;clear Av hch oG;go_wp2_with (go_at_call 229;refine(oN sb (a+(len-n)) n _ ah gs _ _ HS.o (by rw[jO];omega) (by omega) hc).mono ?_;rintro e w1 ⟨rfl,h1,c1⟩);go_end0;exact⟨rfl,h1,HC.o.trans c1⟩
 ·have e:FX S a len n ah=cK S a ah len:=by rw[FX,wO (by omega),Nat.sub_self,Nat.sub_zero];rfl
  rw[e];clear e;rcases(show len<n∨len=n by omega)with hmn|hmn
  ·have k1:¬n≤len:=by omega
   have k3:¬(n:Int)≤(len:Int):=by omega
   have v1:IntKind.i64.wrap 0=0:=bD _ (by omega);have i4:cap≠0:=by omega
   have oG:Hid _:=hs;clear hs;go_enter func173,ntmps173;go_wp2_with fail;go_loopw [14] (fun i wr=>i= .int .i64 0∧wr=w) (fun _ _=>0)
   case atStart=>exact⟨rfl,rfl⟩
   case round=>obtain⟨rfl,rfl⟩:=hrel;go_wp2_with (go_at_call 229;refine(oN sb a len _ ah gs _ _ oG.o (by omega) (by omega) hc).mono ?_;rintro e w1 ⟨rfl,h1,c1⟩);go_end0;exact⟨rfl,h1,c1⟩
  ·subst hmn;have v1:IntKind.i64.wrap 0=0:=bD _ (by omega);have i4:cap≠0:=by omega
   have oG:Hid _:=hs;clear hs;go_enter func173,ntmps173;go_wp2_with fail;go_loopw [14] (fun i wr=>i= .int .i64 0∧wr=w) (fun _ _=>0)
   case atStart=>exact⟨rfl,rfl⟩
   case round=>obtain⟨rfl,rfl⟩:=hrel;go_wp2_with (go_at_call 229;refine(oN sb a len _ ah gs _ _ oG.o (by omega) (by omega) hc).mono ?_;rintro e w1 ⟨rfl,h1,c1⟩);go_end0;exact⟨rfl,h1,c1⟩
theorem Gw(sb a len n cap ah:Nat)(gs:List Nat)(S:bS)(w:World)(hs:ShAt w sb gs ah S)(han:a+len≤S.length)(hl1:1≤len)(hl:len≤100)(hn:n≤70000)(hn1:1≤n)(hc:ah≤100)(hcap:len≤cap):
 Calls prog 190 #[.slice (some ⟨sb,a,none⟩) len cap,.int .i64 (n:Int)] w fun e w'=>e= .returned (.tuple #[])∧ShAt w' sb gs ah (oC S a len n ah)∧Ch (· ∈gs) w w':=by
 have e0:(len:Int)-1=((len-1:Nat):Int):=by omega
 have v0:IntKind.i64.wrap ((len-1:Nat):Int)=((len-1:Nat):Int):=bD _ (by omega);by_cases hm:n≤len
 ·have e:oC S a len n ah=cK (iI S a n len (len-n)) a ah n:=by rw[oC,rT (by omega)]
  rw[e];clear e;have i1:(n:Int)≤(len:Int):=by omega
  have i6:n≤cap:=by omega
  have i7:(n:Int)≤(cap:Int):=by omega
  have oG:Hid _:=hs;clear hs;go_enter func190,ntmps190;go_wp2_with fail;go_loopw [4] (fun i wr=>∃q j:Nat,q+j=len-1∧n≤q+1∧i= .int .i64 q∧ShAt wr sb gs ah (iI S a n len j)∧Ch (· ∈gs) w wr) (fun i _=>(intOf i).toNat)
  case atStart=>exact⟨len-1,0,rfl,by omega,rfl,oG.o,Ch.refl _ _⟩
  case round=>
   obtain⟨q,j,hqj,hnq,rfl,Av,hch⟩:=hrel;by_cases hlt:n≤q
   ·have ik:(n:Int)≤(q:Int):=by omega
    obtain⟨g,hg,hcell,hrow,hlen⟩:=Av.get (i:=a+q) (by rw[ja];omega);obtain⟨g2,hg2,hcell2,hrow2,GX⟩:=Av.get (i:=a+(q-n)) (by rw[ja];omega);have ed:iI S a n len (j+1)=(iI S a n len j).set (a+q) ((iI S a n len j).getD (a+(q-n)) []):=by rw[iI,show len-1-j=q by omega,show a+q-n=a+(q-n) by omega]
    have HE:Hid _:=ed;have HS:Hid _:=Av;have HC:Hid _:=hch;have HR:Hid (aV wr g ((iI S a n len j).getD (a+q) [])):=hrow;have HL:Hid _:=hlen;have HR2:Hid (aV wr g2 ((iI S a n len j).getD (a+(q-n)) [])):=hrow2;have HL2:Hid _:=GX;have HG:Hid _:=hg;have HQ:Hid _:=hqj;have kl:q<len:=by omega
    have kl2:(q:Int)<(len:Int):=by omega
    have e2:(q:Int)-(n:Int)=((q-n:Nat):Int):=by omega
    have v2:IntKind.i64.wrap ((q-n:Nat):Int)=((q-n:Nat):Int):=bD _ (by omega);have e3:(q:Int)-1=((q-1:Nat):Int):=by omega
    have v3:IntKind.i64.wrap ((q-1:Nat):Int)=((q-1:Nat):Int):=bD _ (by omega);have j3:q-n<len:=by omega
    have j4:((q-n:Nat):Int)<(len:Int):=by omega
    clear Av hch hrow hlen hrow2 GX hg hg2 ed hqj;go_wp2_with fail;have HH:World.cell? ({wr with drawn:=wr.drawn+1}:World) ⟨sb,a+q,none⟩=some (.slice (some ⟨g,0,none⟩) ah ah)∧World.cell? ({wr with drawn:=wr.drawn+1}:World) ⟨sb,a+(q-n),none⟩=some (.slice (some ⟨g2,0,none⟩) ah ah):=⟨hcell,hcell2⟩;refine dX (S:=fun x=>x.cell? ⟨sb,a+q,none⟩=some (.slice (some ⟨g,0,none⟩) ah ah)∧x.cell? ⟨sb,a+(q-n),none⟩=some (.slice (some ⟨g2,0,none⟩) ah ah)) aX ?_;refine aj 0 HH ?_ (v:=.slice (some ⟨sb,a,none⟩) len cap);refine aj 1 HH ?_ (v:=.int .i64 (q:Int));refine aj 2 HH ?_ (v:=.pointer (some ⟨sb,a+q,none⟩));refine aj 3 HH ?_ (v:=.slice (some ⟨g,0,none⟩) ah ah);simp only[ag,af];refine aj 4 HH ?_ (v:=.slice (some ⟨sb,a,none⟩) len cap);refine aj 5 HH ?_ (v:=.int .i64 (q:Int));refine aj 6 HH ?_ (v:=.int .i64 (n:Int));refine aj 7 HH ?_ (v:=.int .i64 ((q-n:Nat):Int));simp only[ag,af];refine aj 8 HH ?_ (v:=.pointer (some ⟨sb,a+(q-n),none⟩));refine aj 9 HH ?_ (v:=.slice (some ⟨g2,0,none⟩) ah ah);simp only[ag,af];refine wpAnyH_all (rs:=[10]) (by kernel_rfl) (by simp) ?_;intro i hi;rw[jg]at hi;subst hi;refine dI ?_;refine pI 27 (.tmp 20) (.tmp 26) rfl rfl _ _ _ _ _ _ rfl rfl g g2 0 0 ah _ _ HR.o HR2.o (by omega) (by rw[HL.o];omega) (by rw[HL2.o];omega) (fun _=>⟨rfl,rfl⟩) ?_;intro u3 h3 c3;rw[lay_all _ _ _ HL.o HL2.o]at h3;have c3':Ch (· =g) wr u3:=⟨c3.os,c3.tape,c3.output,c3.size,c3.block⟩;have S2:=HS.o.set HG.o h3 HL2.o c3';rw[←HE.o]at S2;have C2:Ch (· ∈gs) w u3:=HC.o.trans (c3'.mono fun k _ e=>e▸iH HG.o);have hne:sb≠g:=fun e=>HS.o.o (e▸iH HG.o);have hb3:=c3'.block sb HS.o.lt hne;refine⟨⟨(dA hb3).trans hcell,(dA hb3).trans hcell2⟩,?_⟩;clear HS HC HR HL HR2 HL2 HG h3 c3 c3' hb3 HH hcell hcell2 oG HE;simp only[ag,af];refine aC ?_;go_wp2_with fail;go_roundw
    case rel=>exact⟨q-1,j+1,by have:=HQ.o;omega,by omega,rfl,S2,C2⟩
    case measure=>simp[intOf];omega
   ·have hkn:j=len-n:=by omega
    subst hkn;have ik:¬(n:Int)≤(q:Int):=by omega
    have HS:Hid _:=Av;have HC:Hid _:=hch;clear Av hch oG hqj;go_wp2_with (go_at_call 229;refine(oN sb a n _ ah gs _ _ HS.o (by rw[ja];omega) (by omega) hc).mono ?_;rintro e w1 ⟨rfl,h1,c1⟩);go_end0;exact⟨rfl,h1,HC.o.trans c1⟩
 ·have e:oC S a len n ah=cK S a ah len:=by rw[oC,wO (by omega),Nat.sub_self];rfl
  rw[e];clear e;have k3:¬(n:Int)≤(len:Int):=by omega
  have k4:¬len≤len-1:=by omega
  have k5:¬(len:Int)≤((len-1:Nat):Int):=by omega
  have oG:Hid _:=hs;clear hs;go_enter func190,ntmps190;go_wp2_with fail;go_loopw [4] (fun i wr=>i= .int .i64 ((len-1:Nat):Int)∧wr=w) (fun _ _=>0)
  case atStart=>exact⟨rfl,rfl⟩
  case round=>obtain⟨rfl,rfl⟩:=hrel;go_wp2_with (go_at_call 229;refine(oN sb a len _ ah gs _ _ oG.o (by omega) (by omega) hc).mono ?_;rintro e w1 ⟨rfl,h1,c1⟩);go_end0;exact⟨rfl,h1,c1⟩
end Go.Proofs.YtheibfffilomcaaGreatDoor
