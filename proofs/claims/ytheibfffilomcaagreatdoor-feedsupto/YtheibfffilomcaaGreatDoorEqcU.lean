import Derived.Test.YtheibfffilomcaaGreatDoorRefU
import Derived.Test.YtheibfffilomcaaGreatDoorTmaU
import Derived.Test.YtheibfffilomcaaGreatDoorEvbU
import Derived.Test.YtheibfffilomcaaGreatDoorMwaU
import Derived.ChangeKeysEq
set_option linter.all false
set_option maxRecDepth 100000
set_option maxHeartbeats 1000000
namespace Go.Proofs.YtheibfffilomcaaGreatDoor
open Go.RowKit Go.Proofs.Tryz
variable {b:Int} {s:RS}
theorem J3(b:Int)(w:World):
 Calls prog 118 #[.int .i64 b] w fun e w'=>e= .returned (.int .i64 (jE b))∧w=w':=by
 by_cases a1:b<128
 ·have e:jE b=1:=by simp[jE,a1]
  rw[e];clear e;go_enter func118,ntmps118;go_wp2;go_ret;exact⟨rfl,rfl⟩
 ·by_cases a2:194≤b
  ·by_cases a3:b≤223
   ·have e:jE b=2:=by simp[jE,a1,a2,a3]
    rw[e];clear e;go_enter func118,ntmps118;go_wp2;go_ret;exact⟨rfl,rfl⟩
   ·by_cases a4:b≤239
    ·have e:jE b=3:=by simp[jE,a1,a3,a4];omega
     rw[e];clear e;have a5:224≤b:=by omega
     go_enter func118,ntmps118;go_wp2;go_ret;exact⟨rfl,rfl⟩
    ·by_cases a5:b≤244
     ·have e:jE b=4:=by simp[jE,a1,a3,a4,a5];omega
      rw[e];clear e;have a6:224≤b:=by omega
      have a7:240≤b:=by omega
      go_enter func118,ntmps118;go_wp2;go_ret;exact⟨rfl,rfl⟩
     ·have e:jE b=0:=by simp[jE,a1,a3,a4,a5]
      rw[e];clear e;have a6:224≤b:=by omega
      have a7:240≤b:=by omega
      go_enter func118,ntmps118;go_wp2;go_ret;exact⟨rfl,rfl⟩
  ·have e:jE b=0:=by simp[jE,a1,a2];omega
   rw[e];clear e;have d1:decide (194≤b)=false:=by simp;omega
   have d2:decide (224≤b)=false:=by simp;omega
   have d3:decide (240≤b)=false:=by simp;omega
   go_enter func118,ntmps118;go_wp2;go_ret;exact⟨rfl,rfl⟩
theorem Qy(b:Int)(w:World):
 Calls prog 119 #[.int .i64 224,.int .i64 1,.int .i64 b] w fun e w'=>e= .returned (.bool (eU 224 1 b))∧w=w':=by
 have hlo:Cv 224 1=160:=by decide
 have hhi:Cu 224 1=191:=by decide
 by_cases c1:160≤b
 ·by_cases c2:b≤191
  ·have e:eU 224 1 b=true:=by simp[eU,hlo,hhi,c1,c2]
   rw[e];clear e hlo hhi;go_enter func119,ntmps119;go_wp2;go_ret;exact⟨rfl,rfl⟩
  ·have e:eU 224 1 b=false:=by simp[eU,hlo,hhi,c2]
   have d2:decide (b≤191)=false:=by simp[c2]
   rw[e];clear e hlo hhi;go_enter func119,ntmps119;go_wp2;go_ret;exact⟨rfl,rfl⟩
 ·have e:eU 224 1 b=false:=by simp[eU,hlo,hhi,c1]
  have d2:decide (160≤b)=false:=by simp[c1]
  rw[e];clear e hlo hhi;go_enter func119,ntmps119;go_wp2;go_ret;exact⟨rfl,rfl⟩
theorem Qz(b:Int)(w:World):
 Calls prog 119 #[.int .i64 237,.int .i64 1,.int .i64 b] w fun e w'=>e= .returned (.bool (eU 237 1 b))∧w=w':=by
 have hlo:Cv 237 1=128:=by decide
 have hhi:Cu 237 1=159:=by decide
 by_cases c1:128≤b
 ·by_cases c2:b≤159
  ·have e:eU 237 1 b=true:=by simp[eU,hlo,hhi,c1,c2]
   rw[e];clear e hlo hhi;go_enter func119,ntmps119;go_wp2;go_ret;exact⟨rfl,rfl⟩
  ·have e:eU 237 1 b=false:=by simp[eU,hlo,hhi,c2]
   have d2:decide (b≤159)=false:=by simp[c2]
   rw[e];clear e hlo hhi;go_enter func119,ntmps119;go_wp2;go_ret;exact⟨rfl,rfl⟩
 ·have e:eU 237 1 b=false:=by simp[eU,hlo,hhi,c1]
  have d2:decide (128≤b)=false:=by simp[c1]
  rw[e];clear e hlo hhi;go_enter func119,ntmps119;go_wp2;go_ret;exact⟨rfl,rfl⟩
theorem aaq(b:Int)(w:World):
 Calls prog 119 #[.int .i64 240,.int .i64 1,.int .i64 b] w fun e w'=>e= .returned (.bool (eU 240 1 b))∧w=w':=by
 have hlo:Cv 240 1=144:=by decide
 have hhi:Cu 240 1=191:=by decide
 by_cases c1:144≤b
 ·by_cases c2:b≤191
  ·have e:eU 240 1 b=true:=by simp[eU,hlo,hhi,c1,c2]
   rw[e];clear e hlo hhi;go_enter func119,ntmps119;go_wp2;go_ret;exact⟨rfl,rfl⟩
  ·have e:eU 240 1 b=false:=by simp[eU,hlo,hhi,c2]
   have d2:decide (b≤191)=false:=by simp[c2]
   rw[e];clear e hlo hhi;go_enter func119,ntmps119;go_wp2;go_ret;exact⟨rfl,rfl⟩
 ·have e:eU 240 1 b=false:=by simp[eU,hlo,hhi,c1]
  have d2:decide (144≤b)=false:=by simp[c1]
  rw[e];clear e hlo hhi;go_enter func119,ntmps119;go_wp2;go_ret;exact⟨rfl,rfl⟩
theorem QD(b:Int)(w:World):
 Calls prog 119 #[.int .i64 244,.int .i64 1,.int .i64 b] w fun e w'=>e= .returned (.bool (eU 244 1 b))∧w=w':=by
 have hlo:Cv 244 1=128:=by decide
 have hhi:Cu 244 1=143:=by decide
 by_cases c1:128≤b
 ·by_cases c2:b≤143
  ·have e:eU 244 1 b=true:=by simp[eU,hlo,hhi,c1,c2]
   rw[e];clear e hlo hhi;go_enter func119,ntmps119;go_wp2;go_ret;exact⟨rfl,rfl⟩
  ·have e:eU 244 1 b=false:=by simp[eU,hlo,hhi,c2]
   have d2:decide (b≤143)=false:=by simp[c2]
   rw[e];clear e hlo hhi;go_enter func119,ntmps119;go_wp2;go_ret;exact⟨rfl,rfl⟩
 ·have e:eU 244 1 b=false:=by simp[eU,hlo,hhi,c1]
  have d2:decide (128≤b)=false:=by simp[c1]
  rw[e];clear e hlo hhi;go_enter func119,ntmps119;go_wp2;go_ret;exact⟨rfl,rfl⟩
theorem JP(f b:Int)(w:World)(h1:f≠224)(h2:f≠237)(h3:f≠240)(h4:f≠244):
 Calls prog 119 #[.int .i64 f,.int .i64 1,.int .i64 b] w fun e w'=>e= .returned (.bool (eU f 1 b))∧w=w':=by
 have hlo:Cv f 1=128:=by simp[Cv,h1,h3]
 have hhi:Cu f 1=191:=by simp[Cu,h2,h4]
 have b1:(f==224)=false:=by simp[h1]
 have b2:(f==237)=false:=by simp[h2]
 have b3:(f==240)=false:=by simp[h3]
 have b4:(f==244)=false:=by simp[h4]
 clear h1 h2 h3 h4;by_cases c1:128≤b
 ·by_cases c2:b≤191
  ·have e:eU f 1 b=true:=by simp[eU,hlo,hhi,c1,c2]
   rw[e];clear e hlo hhi;go_enter func119,ntmps119;go_wp2;go_ret;exact⟨rfl,rfl⟩
  ·have e:eU f 1 b=false:=by simp[eU,hlo,hhi,c2]
   have d2:decide (b≤191)=false:=by simp[c2]
   rw[e];clear e hlo hhi;go_enter func119,ntmps119;go_wp2;go_ret;exact⟨rfl,rfl⟩
 ·have e:eU f 1 b=false:=by simp[eU,hlo,hhi,c1]
  have d2:decide (128≤b)=false:=by simp[c1]
  rw[e];clear e hlo hhi;go_enter func119,ntmps119;go_wp2;go_ret;exact⟨rfl,rfl⟩
theorem JQ(f k b:Int)(w:World)(hk:k≠1):
 Calls prog 119 #[.int .i64 f,.int .i64 k,.int .i64 b] w fun e w'=>e= .returned (.bool (eU f k b))∧w=w':=by
 have hlo:Cv f k=128:=by simp[Cv,hk]
 have hhi:Cu f k=191:=by simp[Cu,hk]
 have b1:(k==1)=false:=by simp[hk]
 clear hk;by_cases c1:128≤b
 ·by_cases c2:b≤191
  ·have e:eU f k b=true:=by simp[eU,hlo,hhi,c1,c2]
   rw[e];clear e hlo hhi;go_enter func119,ntmps119;go_wp2;go_ret;exact⟨rfl,rfl⟩
  ·have e:eU f k b=false:=by simp[eU,hlo,hhi,c2]
   have d2:decide (b≤191)=false:=by simp[c2]
   rw[e];clear e hlo hhi;go_enter func119,ntmps119;go_wp2;go_ret;exact⟨rfl,rfl⟩
 ·have e:eU f k b=false:=by simp[eU,hlo,hhi,c1]
  have d2:decide (128≤b)=false:=by simp[c1]
  rw[e];clear e hlo hhi;go_enter func119,ntmps119;go_wp2;go_ret;exact⟨rfl,rfl⟩
theorem QE(f k b:Int)(w:World):
 Calls prog 119 #[.int .i64 f,.int .i64 k,.int .i64 b] w fun e w'=>e= .returned (.bool (eU f k b))∧w=w':=by
 by_cases hk:k=1
 ·subst hk;by_cases f1:f=224
  ·subst f1;exact Qy b w
  ·by_cases f2:f=237
   ·subst f2;exact Qz b w
   ·by_cases f3:f=240
    ·subst f3;exact aaq b w
    ·by_cases f4:f=244
     ·subst f4;exact QD b w
     ·exact JP f b w f1 f2 f3 f4
 ·exact JQ f k b w hk
theorem r_(b n:Int)(w:World)(h:jE b=n):Calls prog 118 #[.int .i64 b] w fun e w'=>e= .returned (.int .i64 n)∧w=w':=h▸J3 b w
theorem vQ(f k b:Int)(t:Bool)(w:World)(h:eU f k b=t):Calls prog 119 #[.int .i64 f,.int .i64 k,.int .i64 b] w fun e w'=>e= .returned (.bool t)∧w=w':=h▸QE f k b w
theorem LC(s:ByteArray)(k:Nat)(h:k<s.size):(bl s).drop k=((s[k]'h).toNat:Int)::(bl s).drop (k+1):=by
 have h':k<(bl s).length:=by rw[cZ];exact h
 rw[uH h'];simp[bl];rfl
theorem Bd(s:ByteArray)(k:Nat)(h:s.size≤k):(bl s).drop k=[]:=qB (by rw[cZ];exact h)
theorem sZ(s:ByteArray):∀b∈bl s,0≤b∧b<256:=by intro b hb;obtain⟨c,_,rfl⟩:=List.mem_map.1 hb;have:=wQ c;omega
theorem zF(f:Int)(n k:Nat)(v:Int)(h:k<n):iW f n [] k v=(65533,k,false):=by simp[iW,h]
theorem zG(f:Int)(n k:Nat)(v b:Int)(r:List Int)(h:k<n)(hg:eU f k b=true):iW f n (b::r) k v=iW f n r (k+1) (64*v+b-128):=by simp[iW,h,hg]
theorem BM(f:Int)(n k:Nat)(v b:Int)(r:List Int)(h:k<n)(hg:eU f k b=false):iW f n (b::r) k v=(65533,k,true):=by simp[iW,h,hg]
theorem xH(f:Int)(n:Nat)(v:Int)(r:List Int):iW f n r n v=(v,n,true):=by cases r<;>simp[iW]
theorem uQ{f k:Int}(h:eU f k b=true):128≤b∧b≤191:=by
 have hg:Cv f k≤b∧b≤Cu f k:=by simpa[eU]using h
 unfold Cv Cu at hg
 repeat' split at hg
 all_goals omega
theorem KY{a:Int}{p q:Nat}{x y:Bool}(h:(a,p,x)=(b,q,y))(at':Nat):Ending.returned (.tuple #[.int .i64 a,.int .i64 ((at'+p:Nat):Int),.bool x])= .returned (.tuple #[.int .i64 b,.int .i64 ((at'+q:Nat):Int),.bool y]):=by cases h;rfl
theorem XA(s:ByteArray)(at':Nat)(w:World)(hs:s.size≤100000000)(hat:at'<s.size)(f:Int)(hf:f=((s[at']'hat).toNat:Int))(hl:jE f=1):
 Calls prog 60 #[.string s,.int .i64 at'] w fun e w'=>e= .returned (.tuple #[.int .i64 f,.int .i64 ((at'+1:Nat):Int),.bool true])∧w=w':=by
 have hf1:((s[at']'hat).toNat:Int)<256:=by have:=wQ (s[at']'hat);omega
 have HF:Hid _:=hf;have HL:Hid _:=hl;clear hl hf;go_enter func60,ntmps60;go_wp2_with fail;rw[←HF.o];refine(r_ f 1 _ HL.o).mono ?_;rintro e w1 ⟨rfl,rfl⟩;go_wp2_with fail;go_ret3;refine⟨?_,rfl⟩;rw[show(((at'+1:Nat):Nat):Int)=(at':Int)+1 by omega];rfl
theorem Xz(s:ByteArray)(at':Nat)(w:World)(hs:s.size≤100000000)(hat:at'<s.size)(f:Int)(hf:f=((s[at']'hat).toNat:Int))(hl:jE f=0):
 Calls prog 60 #[.string s,.int .i64 at'] w fun e w'=>e= .returned (.tuple #[.int .i64 65533,.int .i64 ((at'+1:Nat):Int),.bool true])∧w=w':=by
 have hf1:((s[at']'hat).toNat:Int)<256:=by have:=wQ (s[at']'hat);omega
 have HF:Hid _:=hf;have HL:Hid _:=hl;clear hl hf;go_enter func60,ntmps60;go_wp2_with fail;rw[←HF.o];refine(r_ f 0 _ HL.o).mono ?_;rintro e w1 ⟨rfl,rfl⟩;go_wp2_with fail;go_ret3;refine⟨?_,rfl⟩;rw[show(((at'+1:Nat):Nat):Int)=(at':Int)+1 by omega];rfl
theorem XB(s:ByteArray)(at':Nat)(w:World)(hs:s.size≤100000000)(hat:at'<s.size)(f:Int)(hf:f=((s[at']'hat).toNat:Int))(hl:jE f=2)(c:Int)(q:Nat)(wh:Bool)(hR:iW f 2 ((bl s).drop (at'+1)) 1 (f % 32)=(c,q,wh)):
 Calls prog 60 #[.string s,.int .i64 at'] w fun e w'=>e= .returned (.tuple #[.int .i64 c,.int .i64 ((at'+q:Nat):Int),.bool wh])∧w=w':=by
 have hf0:0≤f:=by omega
 have hf1:((s[at']'hat).toNat:Int)<256:=by have:=wQ (s[at']'hat);omega
 have hf2:f<256:=by omega
 have HF:Hid _:=hf;have HL:Hid _:=hl;have HR:Hid _:=hR;clear hl hf hR;go_enter func60,ntmps60;go_wp2_with fail;rw[←HF.o];refine(r_ f 2 _ HL.o).mono ?_;rintro e w1 ⟨rfl,rfl⟩;go_wp2_with fail;go_loop [9,10] (fun v i=>∃(k:Nat) (z:Int),1≤k∧k≤2∧at'+k≤s.size∧i= .int .i64 k∧v= .int .i64 z∧0≤z∧(k=1→z<32)∧(k=2→z<2048)∧(k=3→z<131072)∧Hid (iW f 2 ((bl s).drop (at'+k)) k z=(c,q,wh)))
  (fun _ i=>2-(intOf i).toNat)
 case atStart=>exact⟨1,_,bN _,by omega,by omega,rfl,rfl,by omega,fun _=>by omega,fun h=>by omega,fun h=>by omega,HR⟩
 case round=>
  obtain⟨k,z,hk1,hk2,hks,rfl,rfl,hz0,hz1,hz2,hz3,H⟩:=hrel;by_cases hlt:k<2
  ·have hzb:z<131072:=by omega
   by_cases hin:at'+k<s.size
   ·have hbx:(s[at'+k]'hin).toNat<256:=wQ _;have hdr:=LC s (at'+k) hin;have Hz1:Hid (k=1→z<32):=hz1;have Hz2:Hid (k=2→z<2048):=hz2;have Hz3:Hid (k=3→z<131072):=hz3;clear hz1 hz2 hz3;cases hg:eU f k ((s[at'+k]'hin).toNat:Int)with
    |true=>
     have hrg:=uQ hg;have H2:Hid (iW f 2 ((bl s).drop (at'+(k+1))) (k+1) (64*z+((s[at'+k]'hin).toNat:Int)-128)=(c,q,wh)):=by have:=H.o;rw[hdr,zG f 2 k z _ _ hlt hg]at this;exact this
     have HG:Hid _:=hg;clear hdr hg;go_wp2_with fail;refine(vQ f k _ true _ HG.o).mono ?_;rintro e w1 ⟨rfl,rfl⟩;go_wp2_with fail;go_round
     case rel=>exact⟨k+1,_,by omega,by omega,by omega,by go_num,rfl,by omega,fun h=>by omega,fun h=>by have:=Hz1.o (by omega);omega,fun h=>by have:=Hz2.o (by omega);omega,H2⟩
     case measure=>simp[intOf];omega
    |false=>
     have H2:Hid ((65533,k,true)=(c,q,wh)):=by have:=H.o;rw[hdr,BM f 2 k z _ _ hlt hg]at this;exact this
     have HG:Hid _:=hg;clear hdr hg;go_wp2_with fail;refine(vQ f k _ false _ HG.o).mono ?_;rintro e w1 ⟨rfl,rfl⟩;go_wp2_with fail;go_ret3;exact⟨(KY H2.o at').symm▸rfl,rfl⟩
   ·have hge:at'+k=s.size:=by omega
    have H2:Hid ((65533,k,false)=(c,q,wh)):=by have:=H.o;rw[Bd s (at'+k) (by omega),zF f 2 k z hlt]at this;exact this
    have ab3:(s.size:Int)≤(at':Int)+(k:Int):=by omega
    have HE:Hid _:=hge;clear hge;go_wp2_with fail;go_ret3;have hx:=H2.o;simp only[Prod.mk.injEq]at hx;obtain⟨rfl,rfl,rfl⟩:=hx;rw[show(at':Int)+(k:Int)=(s.size:Int) by have:=HE.o;omega];exact⟨rfl,rfl⟩
  ·have hkn:k=2:=by omega
   subst hkn;have H2:Hid ((z,2,true)=(c,q,wh)):=by have:=H.o;rw[xH]at this;exact this
   go_wp2_with fail;go_ret3;have hx:=H2.o;simp only[Prod.mk.injEq]at hx;obtain⟨rfl,rfl,rfl⟩:=hx;exact⟨rfl,rfl⟩
theorem XD(s:ByteArray)(at':Nat)(w:World)(hs:s.size≤100000000)(hat:at'<s.size)(f:Int)(hf:f=((s[at']'hat).toNat:Int))(hl:jE f=3)(c:Int)(q:Nat)(wh:Bool)(hR:iW f 3 ((bl s).drop (at'+1)) 1 (f % 16)=(c,q,wh)):
 Calls prog 60 #[.string s,.int .i64 at'] w fun e w'=>e= .returned (.tuple #[.int .i64 c,.int .i64 ((at'+q:Nat):Int),.bool wh])∧w=w':=by
 have hf0:0≤f:=by omega
 have hf1:((s[at']'hat).toNat:Int)<256:=by have:=wQ (s[at']'hat);omega
 have hf2:f<256:=by omega
 have HF:Hid _:=hf;have HL:Hid _:=hl;have HR:Hid _:=hR;clear hl hf hR;go_enter func60,ntmps60;go_wp2_with fail;rw[←HF.o];refine(r_ f 3 _ HL.o).mono ?_;rintro e w1 ⟨rfl,rfl⟩;go_wp2_with fail;go_loop [9,10] (fun v i=>∃(k:Nat) (z:Int),1≤k∧k≤3∧at'+k≤s.size∧i= .int .i64 k∧v= .int .i64 z∧0≤z∧(k=1→z<32)∧(k=2→z<2048)∧(k=3→z<131072)∧Hid (iW f 3 ((bl s).drop (at'+k)) k z=(c,q,wh)))
  (fun _ i=>3-(intOf i).toNat)
 case atStart=>exact⟨1,_,bN _,by omega,by omega,rfl,rfl,by omega,fun _=>by omega,fun h=>by omega,fun h=>by omega,HR⟩
 case round=>
  obtain⟨k,z,hk1,hk2,hks,rfl,rfl,hz0,hz1,hz2,hz3,H⟩:=hrel;by_cases hlt:k<3
  ·have hzb:z<131072:=by omega
   by_cases hin:at'+k<s.size
   ·have hbx:(s[at'+k]'hin).toNat<256:=wQ _;have hdr:=LC s (at'+k) hin;have Hz1:Hid (k=1→z<32):=hz1;have Hz2:Hid (k=2→z<2048):=hz2;have Hz3:Hid (k=3→z<131072):=hz3;clear hz1 hz2 hz3;cases hg:eU f k ((s[at'+k]'hin).toNat:Int)with
    |true=>
     have hrg:=uQ hg;have H2:Hid (iW f 3 ((bl s).drop (at'+(k+1))) (k+1) (64*z+((s[at'+k]'hin).toNat:Int)-128)=(c,q,wh)):=by have:=H.o;rw[hdr,zG f 3 k z _ _ hlt hg]at this;exact this
     have HG:Hid _:=hg;clear hdr hg;go_wp2_with fail;refine(vQ f k _ true _ HG.o).mono ?_;rintro e w1 ⟨rfl,rfl⟩;go_wp2_with fail;go_round
     case rel=>exact⟨k+1,_,by omega,by omega,by omega,by go_num,rfl,by omega,fun h=>by omega,fun h=>by have:=Hz1.o (by omega);omega,fun h=>by have:=Hz2.o (by omega);omega,H2⟩
     case measure=>simp[intOf];omega
    |false=>
     have H2:Hid ((65533,k,true)=(c,q,wh)):=by have:=H.o;rw[hdr,BM f 3 k z _ _ hlt hg]at this;exact this
     have HG:Hid _:=hg;clear hdr hg;go_wp2_with fail;refine(vQ f k _ false _ HG.o).mono ?_;rintro e w1 ⟨rfl,rfl⟩;go_wp2_with fail;go_ret3;exact⟨(KY H2.o at').symm▸rfl,rfl⟩
   ·have hge:at'+k=s.size:=by omega
    have H2:Hid ((65533,k,false)=(c,q,wh)):=by have:=H.o;rw[Bd s (at'+k) (by omega),zF f 3 k z hlt]at this;exact this
    have ab3:(s.size:Int)≤(at':Int)+(k:Int):=by omega
    have HE:Hid _:=hge;clear hge;go_wp2_with fail;go_ret3;have hx:=H2.o;simp only[Prod.mk.injEq]at hx;obtain⟨rfl,rfl,rfl⟩:=hx;rw[show(at':Int)+(k:Int)=(s.size:Int) by have:=HE.o;omega];exact⟨rfl,rfl⟩
  ·have hkn:k=3:=by omega
   subst hkn;have H2:Hid ((z,3,true)=(c,q,wh)):=by have:=H.o;rw[xH]at this;exact this
   go_wp2_with fail;go_ret3;have hx:=H2.o;simp only[Prod.mk.injEq]at hx;obtain⟨rfl,rfl,rfl⟩:=hx;exact⟨rfl,rfl⟩
theorem XF(s:ByteArray)(at':Nat)(w:World)(hs:s.size≤100000000)(hat:at'<s.size)(f:Int)(hf:f=((s[at']'hat).toNat:Int))(hl:jE f=4)(c:Int)(q:Nat)(wh:Bool)(hR:iW f 4 ((bl s).drop (at'+1)) 1 (f % 8)=(c,q,wh)):
 Calls prog 60 #[.string s,.int .i64 at'] w fun e w'=>e= .returned (.tuple #[.int .i64 c,.int .i64 ((at'+q:Nat):Int),.bool wh])∧w=w':=by
 have hf0:0≤f:=by omega
 have hf1:((s[at']'hat).toNat:Int)<256:=by have:=wQ (s[at']'hat);omega
 have hf2:f<256:=by omega
 have HF:Hid _:=hf;have HL:Hid _:=hl;have HR:Hid _:=hR;clear hl hf hR;go_enter func60,ntmps60;go_wp2_with fail;rw[←HF.o];refine(r_ f 4 _ HL.o).mono ?_;rintro e w1 ⟨rfl,rfl⟩;go_wp2_with fail;go_loop [9,10] (fun v i=>∃(k:Nat) (z:Int),1≤k∧k≤4∧at'+k≤s.size∧i= .int .i64 k∧v= .int .i64 z∧0≤z∧(k=1→z<32)∧(k=2→z<2048)∧(k=3→z<131072)∧Hid (iW f 4 ((bl s).drop (at'+k)) k z=(c,q,wh)))
  (fun _ i=>4-(intOf i).toNat)
 case atStart=>exact⟨1,_,bN _,by omega,by omega,rfl,rfl,by omega,fun _=>by omega,fun h=>by omega,fun h=>by omega,HR⟩
 case round=>
  obtain⟨k,z,hk1,hk2,hks,rfl,rfl,hz0,hz1,hz2,hz3,H⟩:=hrel;by_cases hlt:k<4
  ·have hzb:z<131072:=by omega
   by_cases hin:at'+k<s.size
   ·have hbx:(s[at'+k]'hin).toNat<256:=wQ _;have hdr:=LC s (at'+k) hin;have Hz1:Hid (k=1→z<32):=hz1;have Hz2:Hid (k=2→z<2048):=hz2;have Hz3:Hid (k=3→z<131072):=hz3;clear hz1 hz2 hz3;cases hg:eU f k ((s[at'+k]'hin).toNat:Int)with
    |true=>
     have hrg:=uQ hg;have H2:Hid (iW f 4 ((bl s).drop (at'+(k+1))) (k+1) (64*z+((s[at'+k]'hin).toNat:Int)-128)=(c,q,wh)):=by have:=H.o;rw[hdr,zG f 4 k z _ _ hlt hg]at this;exact this
     have HG:Hid _:=hg;clear hdr hg;go_wp2_with fail;refine(vQ f k _ true _ HG.o).mono ?_;rintro e w1 ⟨rfl,rfl⟩;go_wp2_with fail;go_round
     case rel=>exact⟨k+1,_,by omega,by omega,by omega,by go_num,rfl,by omega,fun h=>by omega,fun h=>by have:=Hz1.o (by omega);omega,fun h=>by have:=Hz2.o (by omega);omega,H2⟩
     case measure=>simp[intOf];omega
    |false=>
     have H2:Hid ((65533,k,true)=(c,q,wh)):=by have:=H.o;rw[hdr,BM f 4 k z _ _ hlt hg]at this;exact this
     have HG:Hid _:=hg;clear hdr hg;go_wp2_with fail;refine(vQ f k _ false _ HG.o).mono ?_;rintro e w1 ⟨rfl,rfl⟩;go_wp2_with fail;go_ret3;exact⟨(KY H2.o at').symm▸rfl,rfl⟩
   ·have hge:at'+k=s.size:=by omega
    have H2:Hid ((65533,k,false)=(c,q,wh)):=by have:=H.o;rw[Bd s (at'+k) (by omega),zF f 4 k z hlt]at this;exact this
    have ab3:(s.size:Int)≤(at':Int)+(k:Int):=by omega
    have HE:Hid _:=hge;clear hge;go_wp2_with fail;go_ret3;have hx:=H2.o;simp only[Prod.mk.injEq]at hx;obtain⟨rfl,rfl,rfl⟩:=hx;rw[show(at':Int)+(k:Int)=(s.size:Int) by have:=HE.o;omega];exact⟨rfl,rfl⟩
  ·have hkn:k=4:=by omega
   subst hkn;have H2:Hid ((z,4,true)=(c,q,wh)):=by have:=H.o;rw[xH]at this;exact this
   go_wp2_with fail;go_ret3;have hx:=H2.o;simp only[Prod.mk.injEq]at hx;obtain⟨rfl,rfl,rfl⟩:=hx;exact⟨rfl,rfl⟩
theorem Qb(s:ByteArray)(at':Nat)(w:World)(hs:s.size≤100000000)(hat:at'<s.size):
 Calls prog 60 #[.string s,.int .i64 at'] w fun e w'=>∃(c:Int) (q:Nat) (wh:Bool),e= .returned (.tuple #[.int .i64 c,.int .i64 ((at'+q:Nat):Int),.bool wh])∧w=w'∧1≤q∧at'+q≤s.size∧
  Hid (wh=true→∀t,nU t ((bl s).drop at')=c::nU t ((bl s).drop (at'+q)))∧Hid (wh=false→at'+q=s.size∧∀t,nU t ((bl s).drop at')=(if t then[c]else[])):=by
 obtain⟨f,hf⟩:∃f:Int,f=((s[at']'hat).toNat:Int):=⟨_,rfl⟩;have hdr:=LC s at' hat;rw[←hf]at hdr;have hby:∀b∈(bl s).drop (at'+1),0≤b∧b<256:=fun b hb=>sZ s b (List.mem_of_mem_drop hb);obtain⟨g1,g2⟩:=MV f ((bl s).drop (at'+1)) (by omega) hby;have hlen:(f::(bl s).drop (at'+1)).length=s.size-at':=by rw[←hdr,o8,cZ]
 have fin:∀c q wh,jS f ((bl s).drop (at'+1))=(c,q,wh)→1≤q∧at'+q≤s.size∧Hid (wh=true→∀t,nU t ((bl s).drop at')=c::nU t ((bl s).drop (at'+q)))∧Hid (wh=false→at'+q=s.size∧∀t,nU t ((bl s).drop at')=(if t then[c]else[])):=by
  intro c q wh e;rw[e]at g1 g2;dsimp only at g1 g2;cases wh with
  |true=>have h0:=Mc g2 true;refine⟨g1,by omega,fun _ t=>?_,fun h=>by simp at h⟩;have:=(Mc g2 t).2;rw[←hdr,List.drop_drop]at this;exact this
  |false=>have h0:=Rj g2 true;refine⟨g1,by omega,fun h=>by simp at h,fun _=>⟨by omega,fun t=>?_⟩⟩;have:=(Rj g2 t).2;rw[←hdr]at this;exact this
 rcases BA f with⟨h,_⟩|⟨h,_,_⟩|h|h|h
 ·refine(XA s at' w hs hat f hf h).mono ?_;rintro e w' ⟨rfl,rfl⟩;exact⟨_,_,_,rfl,rfl,fin _ _ _ (by simp[jS,h])⟩
 ·refine(Xz s at' w hs hat f hf h).mono ?_;rintro e w' ⟨rfl,rfl⟩;exact⟨_,_,_,rfl,rfl,fin _ _ _ (by simp[jS,h])⟩
 ·refine(XB s at' w hs hat f hf h _ _ _ rfl).mono ?_;rintro e w' ⟨rfl,rfl⟩;exact⟨_,_,_,rfl,rfl,fin _ _ _ (by simp[jS,h])⟩
 ·refine(XD s at' w hs hat f hf h _ _ _ rfl).mono ?_;rintro e w' ⟨rfl,rfl⟩;exact⟨_,_,_,rfl,rfl,fin _ _ _ (by simp[jS,h])⟩
 ·refine(XF s at' w hs hat f hf h _ _ _ rfl).mono ?_;rintro e w' ⟨rfl,rfl⟩;exact⟨_,_,_,rfl,rfl,fin _ _ _ (by simp[jS,h])⟩
theorem MW(s:ByteArray)(t:Bool)(w:World)(hs:s.size≤100000000):
 Calls prog 29 #[.string s,.bool t] w fun e w'=>∃v,e= .returned v∧gI w' w.heap.size v (nU t (bl s))∧Below w.heap.size w w':=by
 go_enter func29,ntmps29;go_wp2_with fail;go_loopw [5,6] (fun v i wr=>∃(k:Nat) (L:List Int),k≤s.size∧i= .int .i64 k∧L.length≤k∧gI wr w.heap.size v L∧Below w.heap.size w wr∧Hid (L++nU t ((bl s).drop k)=nU t (bl s))) (fun _ i _=>s.size-(intOf i).toNat)
 case atStart=>exact⟨0,[],dx _,rfl,bN _,AU _ _ _ _,dU _ _,rfl⟩
 case round=>
  obtain⟨k,L,hk,rfl,hLk,own,hbel,H⟩:=hrel;have hsz:=hbel.size;by_cases hlt:k<s.size
  ·go_wp2_with fail;refine(Qb s k _ hs hlt).mono ?_;rintro e w1 ⟨c,q,wh,rfl,rfl,hq1,hq2,Hy,Hn⟩;cases wh with
   |true=>
    have H2:Hid ((L++[c])++nU t ((bl s).drop (k+q))=nU t (bl s)):=by have:=H.o;rw[Hy.o rfl t]at this;rw[f_];exact this
    clear Hy Hn;go_wp2_with (at_builtin;refine AA wr rfl _ _ rfl w.heap.size _ L _ rfl ?c1 _ ?c2 rfl ?c3 ?c4 ?_)
    case c1=>exact own
    case c2=>rfl
    case c3=>omega
    case c4=>exact hsz
    intro v1 w2 jR hb1;have GV:=hbel.trans hb1;go_wp2_with fail;go_roundw
    case rel=>exact⟨k+q,L++[c],hq2,by go_num,by simp;omega,jR,GV,H2⟩
    case measure=>simp[intOf];omega
   |false=>
    have hx:=Hn.o rfl;have hkq:=hx.1;have hE:=Bd s (k+q) (by omega);cases t with
    |true=>
     have H2:Hid ((L++[c])++nU true ((bl s).drop (k+q))=nU true (bl s)):=by have:=H.o;rw[hx.2 true]at this;rw[hE,BC,gp];exact this
     clear Hy Hn hx hkq hE;go_wp2_with (at_builtin;refine AA wr rfl _ _ rfl w.heap.size _ L _ rfl ?d1 _ ?d2 rfl ?d3 ?d4 ?_)
     case d1=>exact own
     case d2=>rfl
     case d3=>omega
     case d4=>exact hsz
     intro v1 w2 jR hb1;have GV:=hbel.trans hb1;go_wp2_with fail;go_roundw
     case rel=>exact⟨k+q,L++[c],hq2,by go_num,by simp;omega,jR,GV,H2⟩
     case measure=>simp[intOf];omega
    |false=>
     have H2:Hid (L++nU false ((bl s).drop (k+q))=nU false (bl s)):=by have:=H.o;rw[hx.2 false]at this;rw[hE,BC];exact this
     clear Hy Hn hx hkq hE;go_wp2_with fail;go_roundw
     case rel=>exact⟨k+q,L,hq2,by go_num,by omega,own,hbel,H2⟩
     case measure=>simp[intOf];omega
  ·have hks:k=s.size:=by omega
   have H2:=H.o;rw[Bd s k (by omega),BC,gp]at H2;have H3:Hid _:=H2;clear H2;go_wp2_with fail;go_ret;exact⟨_,rfl,H3.o▸own,hbel⟩
theorem decode_len(l:List Int):(decode l).length≤2*l.length+1:=by
 unfold decode;rw[fU];have h1:=Vr RS.zero l;have h2:(RS.zero.run l).1.fin.2.length≤1:=by unfold RS.fin;split<;>simp
 omega
theorem P5(h0:0≤b)(h1:b<256):∀c∈(s.uC b).2,0≤c∧c≤10000000:=by
 intro c hc;unfold RS.uC at hc;split at hc
 ·simp at hc;omega
 ·split at hc
  ·simp at hc
  ·simp at hc;omega
theorem FJ(hs:s.ok)(h0:0≤b)(h1:b<256):∀c∈(s.take b).2,0≤c∧c≤10000000:=by
 intro c hc;unfold RS.take at hc;split at hc
 ·exact P5 h0 h1 c hc
 ·split at hc
  ·rcases nM.1 hc with hc|hc
   ·unfold RS.fin at hc;split at hc
    ·simp at hc
    ·simp at hc;omega
   ·exact P5 h0 h1 c hc
  ·unfold RS.join at hc;split at hc
   ·have:=hs.v0;have:=hs.v1 ‹_›;simp at hc;omega
   ·simp at hc
def MS.evs (s:MS):List Int→MS × List (List Int)
 | []=>(s,[])
 |c::r=>((MS.evs (s.take c).1 r).1,(if(s.take c).2.2 then[(s.take c).2.1]else[])++(MS.evs (s.take c).1 r).2)
theorem JN(s:MS)(l r:List Int):s.evs (l++r)=(((s.evs l).1.evs r).1,(s.evs l).2++((s.evs l).1.evs r).2):=by
 induction l generalizing s with
 |nil=>simp[MS.evs]
 |cons b l ih=>simp[MS.evs,ih,f_]
def UL (l:List Int):List (List Int):=(MS.zero.evs l).2
theorem oF(xs:Array Value)(off:Nat)(x:Int)(h:xs[off]? =some (.int .i64 x))(w:World):(part 3 xs off).run prog w= .ok (.int .i64 x) w:=by
 have hz:(isAgg 3).run prog w= .ok false w:=by kernel_rfl
 simp[part,hz,h]
theorem wY(xs:Array Value)(off:Nat)(x:Bool)(h:xs[off]? =some (.bool x))(w:World):(part 4 xs off).run prog w= .ok (.bool x) w:=by
 have hz:(isAgg 4).run prog w= .ok false w:=by kernel_rfl
 simp[part,hz,h]
theorem Fa(xs:Array Value)(off:Nat)(w:World):(part 80 xs off).run prog w= .ok (.agg (xs.extract off (off+5))) w:=by
 have hz:(isAgg 80).run prog w= .ok true w:=by kernel_rfl
 have hs:(sizeOf 80).run prog w= .ok 5 w:=by kernel_rfl
 simp only[part,jV,hz,jU,if_true,hs,mK]
theorem aaR(xs:Array Value)(off:Nat)(w:World):(part 82 xs off).run prog w= .ok (.agg (xs.extract off (off+12))) w:=by
 have hz:(isAgg 82).run prog w= .ok true w:=by kernel_rfl
 have hs:(sizeOf 82).run prog w= .ok 12 w:=by kernel_rfl
 simp only[part,jV,hz,jU,if_true,hs,mK]
theorem vN(d:Nat)(xs ys:Array Value)(w:World):∀(fs:List Field) (L:List (TypeId × Nat × Bool)),(∀f∈fs,f.name≠ "_")→fs.map (fun f=>(f.type,f.offset))=L.map (fun x=>(x.1,x.2.1))→
 (∀x∈L,∃a b,(part x.1 xs x.2.1).run prog w= .ok a w∧(part x.1 ys x.2.1).run prog w= .ok b w∧(Op.equalIn d x.1 a b).run prog w= .ok x.2.2 w)→(Op.eqFields d xs ys fs).run prog w= .ok (L.all (·.2.2)) w
 | [],[],_,_,_=>by simp[Op.eqFields]
 | [],_::_,_,h,_=>by simp at h
 |_::_,[],_,h,_=>by simp at h
 |f::fs,x::L,hn,h,hx=>by
  simp only[List.map_cons,List.cons.injEq,Prod.mk.injEq]at h;obtain⟨⟨h1,h2⟩,h3⟩:=h;obtain⟨a,b,e1,e2,e3⟩:=hx x (by simp);have ih:=vN d xs ys w fs L (fun g hg=>hn g (by simp[hg])) h3 (fun y hy=>hx y (by simp[hy]));rw[←h1, ←h2]at e1 e2;rw[←h1]at e3;have hf:f.name≠ "_" :=hn f (by simp);simp only[Op.eqFields,jV,Sem.run_ite,e1,e2,e3,jU,List.all_cons];rw[ak (by simpa using hf)];cases x.2.2
  ·simp
  ·simpa using ih
theorem eqB(d:Nat)(x y:Bool)(w:World):(Op.equalIn (d+1) 4 (.bool x) (.bool y)).run prog w= .ok (x==y) w:=by simp[Op.equalIn,run_underlying underlying4]
theorem UI(d:Nat)(x y:Int)(w:World):(Op.equalIn (d+1) 3 (.int .i64 x) (.int .i64 y)).run prog w= .ok (x==y) w:=by rw[run_equalIn_int w d 3 .i64 .i64 x y underlying3]
theorem eqP(d:Nat)(p q:fO)(w:World):(Op.equalIn (d+2) 80 (.agg (aW p)) (.agg (aW q))).run prog w= .ok (decide (p=q)) w:=by
 have hu:prog.underlying 80=some (.struct (prog.fieldsOf 80)):=by kernel_rfl
 have hp:prog.stoodInHeld 80=false:=by kernel_rfl
 rw[run_equalIn_struct w (d+1) 80 _ _ hu hp];rw[vN (d+1) _ _ w _ [(4,0,p.b==q.b),(4,1,p.u==q.u),(4,2,p.t==q.t),(3,3,p.f==q.f),(3,4,p.k==q.k)] (pV (by kernel_rfl)) (by kernel_rfl) ?_]
 ·refine congrArg (fun z=>Result.ok z w) ?_;obtain⟨b,u,t,f,k⟩:=p;obtain⟨b',u',t',f',k'⟩:=q;simp only[List.all_cons,List.all_nil,fO.mk.injEq,Bool.and_true];rw[Bool.eq_iff_iff];simp
 ·intro x hx;simp only[kK,pX,pY]at hx;rcases hx with rfl|rfl|rfl|rfl|rfl
  ·exact⟨_,_,wY _ 0 p.b rfl w,wY _ 0 q.b rfl w,eqB _ _ _ w⟩
  ·exact⟨_,_,wY _ 1 p.u rfl w,wY _ 1 q.u rfl w,eqB _ _ _ w⟩
  ·exact⟨_,_,wY _ 2 p.t rfl w,wY _ 2 q.t rfl w,eqB _ _ _ w⟩
  ·exact⟨_,_,oF _ 3 p.f rfl w,oF _ 3 q.f rfl w,UI _ _ _ w⟩
  ·exact⟨_,_,oF _ 4 p.k rfl w,oF _ 4 q.k rfl w,UI _ _ _ w⟩
theorem eqC(c e:aI)(w:World):(Op.equalIn 10000 101 (.agg (dw c)) (.agg (dw e))).run prog w= .ok (decide (c=e)) w:=by
 have hu:prog.underlying 101=some (.struct (prog.fieldsOf 101)):=by kernel_rfl
 have hp:prog.stoodInHeld 101=false:=by kernel_rfl
 rw[run_equalIn_struct w 9999 101 _ _ hu hp];rw[vN 9999 _ _ w _ [(3,0,c.r==e.r),(80,1,decide (c.p=e.p)),(3,6,c.part==e.part)] (pV (by kernel_rfl)) (by kernel_rfl) ?_]
 ·refine congrArg (fun z=>Result.ok z w) ?_;obtain⟨r,p,t⟩:=c;obtain⟨r',p',t'⟩:=e;simp only[List.all_cons,List.all_nil,aI.mk.injEq,Bool.and_true];rw[Bool.eq_iff_iff];simp
 ·intro x hx;simp only[kK,pX,pY]at hx;rcases hx with rfl|rfl|rfl
  ·exact⟨_,_,oF _ 0 c.r rfl w,oF _ 0 e.r rfl w,UI _ _ _ w⟩
  ·refine⟨_,_,Fa _ 1 w,Fa _ 1 w,?_⟩;exact eqP 9997 c.p e.p w
  ·exact⟨_,_,oF _ 6 c.part rfl w,oF _ 6 e.part rfl w,UI _ _ _ w⟩
theorem aeH(c d:aI)(w:World):(binOp .eql 101 (.agg (dw c)) (.agg (dw d))).run prog w= .ok (.bool (decide (c=d))) w:=by rw[run_eql_struct,eqC];rfl
end Go.Proofs.YtheibfffilomcaaGreatDoor
