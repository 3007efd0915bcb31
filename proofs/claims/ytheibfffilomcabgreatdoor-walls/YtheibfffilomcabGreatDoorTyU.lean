import Derived.Test.YtheibfffilomcabGreatDoorTvU
import Derived.Test.YtheibfffilomcabGreatDoorR4U
set_option linter.all false
set_option maxRecDepth 100000
set_option maxHeartbeats 2000000
namespace Go.Proofs.YtheibfffilomcabGreatDoor
open Go.RowKit Go.Proofs.Tryz
def dh (c:Int):Int:=if c=65 then 0 else if c=66 then 1 else if c=67 then 2 else if c=68 then 3 else if c=71 then 4 else if c=100 then 5 else if c=72 then 6 else if c=102 then 7 else if c=64 then 8 else if c=80 then 9 else if c=88 then 10 else if c=76 then 11 else if c=77 then 12 else-1
theorem Yc(w:World):(callFunc 228 #[.string ⟨#[65,66,67,68,71,100,72,102,64,80,88,76,77]⟩,.int .u8 64]).run prog w= .ok (.value (.int .i64 (dh 64))) w:=by kernel_rfl
theorem Yd(w:World):(callFunc 228 #[.string ⟨#[65,66,67,68,71,100,72,102,64,80,88,76,77]⟩,.int .u8 65]).run prog w= .ok (.value (.int .i64 (dh 65))) w:=by kernel_rfl
theorem Ye(w:World):(callFunc 228 #[.string ⟨#[65,66,67,68,71,100,72,102,64,80,88,76,77]⟩,.int .u8 66]).run prog w= .ok (.value (.int .i64 (dh 66))) w:=by kernel_rfl
theorem Yf(w:World):(callFunc 228 #[.string ⟨#[65,66,67,68,71,100,72,102,64,80,88,76,77]⟩,.int .u8 67]).run prog w= .ok (.value (.int .i64 (dh 67))) w:=by kernel_rfl
theorem Yg(w:World):(callFunc 228 #[.string ⟨#[65,66,67,68,71,100,72,102,64,80,88,76,77]⟩,.int .u8 68]).run prog w= .ok (.value (.int .i64 (dh 68))) w:=by kernel_rfl
theorem Yh(w:World):(callFunc 228 #[.string ⟨#[65,66,67,68,71,100,72,102,64,80,88,76,77]⟩,.int .u8 69]).run prog w= .ok (.value (.int .i64 (dh 69))) w:=by kernel_rfl
theorem Yi(w:World):(callFunc 228 #[.string ⟨#[65,66,67,68,71,100,72,102,64,80,88,76,77]⟩,.int .u8 70]).run prog w= .ok (.value (.int .i64 (dh 70))) w:=by kernel_rfl
theorem Yj(w:World):(callFunc 228 #[.string ⟨#[65,66,67,68,71,100,72,102,64,80,88,76,77]⟩,.int .u8 71]).run prog w= .ok (.value (.int .i64 (dh 71))) w:=by kernel_rfl
theorem Yk(w:World):(callFunc 228 #[.string ⟨#[65,66,67,68,71,100,72,102,64,80,88,76,77]⟩,.int .u8 72]).run prog w= .ok (.value (.int .i64 (dh 72))) w:=by kernel_rfl
theorem Yl(w:World):(callFunc 228 #[.string ⟨#[65,66,67,68,71,100,72,102,64,80,88,76,77]⟩,.int .u8 73]).run prog w= .ok (.value (.int .i64 (dh 73))) w:=by kernel_rfl
theorem Ym(w:World):(callFunc 228 #[.string ⟨#[65,66,67,68,71,100,72,102,64,80,88,76,77]⟩,.int .u8 74]).run prog w= .ok (.value (.int .i64 (dh 74))) w:=by kernel_rfl
theorem Yn(w:World):(callFunc 228 #[.string ⟨#[65,66,67,68,71,100,72,102,64,80,88,76,77]⟩,.int .u8 75]).run prog w= .ok (.value (.int .i64 (dh 75))) w:=by kernel_rfl
theorem Yo(w:World):(callFunc 228 #[.string ⟨#[65,66,67,68,71,100,72,102,64,80,88,76,77]⟩,.int .u8 76]).run prog w= .ok (.value (.int .i64 (dh 76))) w:=by kernel_rfl
theorem Yp(w:World):(callFunc 228 #[.string ⟨#[65,66,67,68,71,100,72,102,64,80,88,76,77]⟩,.int .u8 77]).run prog w= .ok (.value (.int .i64 (dh 77))) w:=by kernel_rfl
theorem Yq(w:World):(callFunc 228 #[.string ⟨#[65,66,67,68,71,100,72,102,64,80,88,76,77]⟩,.int .u8 78]).run prog w= .ok (.value (.int .i64 (dh 78))) w:=by kernel_rfl
theorem Yr(w:World):(callFunc 228 #[.string ⟨#[65,66,67,68,71,100,72,102,64,80,88,76,77]⟩,.int .u8 79]).run prog w= .ok (.value (.int .i64 (dh 79))) w:=by kernel_rfl
theorem Yt(w:World):(callFunc 228 #[.string ⟨#[65,66,67,68,71,100,72,102,64,80,88,76,77]⟩,.int .u8 80]).run prog w= .ok (.value (.int .i64 (dh 80))) w:=by kernel_rfl
theorem Yu(w:World):(callFunc 228 #[.string ⟨#[65,66,67,68,71,100,72,102,64,80,88,76,77]⟩,.int .u8 81]).run prog w= .ok (.value (.int .i64 (dh 81))) w:=by kernel_rfl
theorem Yv(w:World):(callFunc 228 #[.string ⟨#[65,66,67,68,71,100,72,102,64,80,88,76,77]⟩,.int .u8 82]).run prog w= .ok (.value (.int .i64 (dh 82))) w:=by kernel_rfl
theorem Yw(w:World):(callFunc 228 #[.string ⟨#[65,66,67,68,71,100,72,102,64,80,88,76,77]⟩,.int .u8 83]).run prog w= .ok (.value (.int .i64 (dh 83))) w:=by kernel_rfl
theorem Yx(w:World):(callFunc 228 #[.string ⟨#[65,66,67,68,71,100,72,102,64,80,88,76,77]⟩,.int .u8 84]).run prog w= .ok (.value (.int .i64 (dh 84))) w:=by kernel_rfl
theorem Yy(w:World):(callFunc 228 #[.string ⟨#[65,66,67,68,71,100,72,102,64,80,88,76,77]⟩,.int .u8 85]).run prog w= .ok (.value (.int .i64 (dh 85))) w:=by kernel_rfl
theorem Yz(w:World):(callFunc 228 #[.string ⟨#[65,66,67,68,71,100,72,102,64,80,88,76,77]⟩,.int .u8 86]).run prog w= .ok (.value (.int .i64 (dh 86))) w:=by kernel_rfl
theorem YA(w:World):(callFunc 228 #[.string ⟨#[65,66,67,68,71,100,72,102,64,80,88,76,77]⟩,.int .u8 87]).run prog w= .ok (.value (.int .i64 (dh 87))) w:=by kernel_rfl
theorem YB(w:World):(callFunc 228 #[.string ⟨#[65,66,67,68,71,100,72,102,64,80,88,76,77]⟩,.int .u8 88]).run prog w= .ok (.value (.int .i64 (dh 88))) w:=by kernel_rfl
theorem YC(w:World):(callFunc 228 #[.string ⟨#[65,66,67,68,71,100,72,102,64,80,88,76,77]⟩,.int .u8 89]).run prog w= .ok (.value (.int .i64 (dh 89))) w:=by kernel_rfl
theorem YD(w:World):(callFunc 228 #[.string ⟨#[65,66,67,68,71,100,72,102,64,80,88,76,77]⟩,.int .u8 90]).run prog w= .ok (.value (.int .i64 (dh 90))) w:=by kernel_rfl
theorem YE(w:World):(callFunc 228 #[.string ⟨#[65,66,67,68,71,100,72,102,64,80,88,76,77]⟩,.int .u8 91]).run prog w= .ok (.value (.int .i64 (dh 91))) w:=by kernel_rfl
theorem YF(w:World):(callFunc 228 #[.string ⟨#[65,66,67,68,71,100,72,102,64,80,88,76,77]⟩,.int .u8 92]).run prog w= .ok (.value (.int .i64 (dh 92))) w:=by kernel_rfl
theorem YG(w:World):(callFunc 228 #[.string ⟨#[65,66,67,68,71,100,72,102,64,80,88,76,77]⟩,.int .u8 93]).run prog w= .ok (.value (.int .i64 (dh 93))) w:=by kernel_rfl
theorem YH(w:World):(callFunc 228 #[.string ⟨#[65,66,67,68,71,100,72,102,64,80,88,76,77]⟩,.int .u8 94]).run prog w= .ok (.value (.int .i64 (dh 94))) w:=by kernel_rfl
theorem YI(w:World):(callFunc 228 #[.string ⟨#[65,66,67,68,71,100,72,102,64,80,88,76,77]⟩,.int .u8 95]).run prog w= .ok (.value (.int .i64 (dh 95))) w:=by kernel_rfl
theorem YJ(w:World):(callFunc 228 #[.string ⟨#[65,66,67,68,71,100,72,102,64,80,88,76,77]⟩,.int .u8 96]).run prog w= .ok (.value (.int .i64 (dh 96))) w:=by kernel_rfl
theorem YK(w:World):(callFunc 228 #[.string ⟨#[65,66,67,68,71,100,72,102,64,80,88,76,77]⟩,.int .u8 97]).run prog w= .ok (.value (.int .i64 (dh 97))) w:=by kernel_rfl
theorem YL(w:World):(callFunc 228 #[.string ⟨#[65,66,67,68,71,100,72,102,64,80,88,76,77]⟩,.int .u8 98]).run prog w= .ok (.value (.int .i64 (dh 98))) w:=by kernel_rfl
theorem YM(w:World):(callFunc 228 #[.string ⟨#[65,66,67,68,71,100,72,102,64,80,88,76,77]⟩,.int .u8 99]).run prog w= .ok (.value (.int .i64 (dh 99))) w:=by kernel_rfl
theorem Ui(w:World):(callFunc 228 #[.string ⟨#[65,66,67,68,71,100,72,102,64,80,88,76,77]⟩,.int .u8 100]).run prog w= .ok (.value (.int .i64 (dh 100))) w:=by kernel_rfl
theorem Uj(w:World):(callFunc 228 #[.string ⟨#[65,66,67,68,71,100,72,102,64,80,88,76,77]⟩,.int .u8 101]).run prog w= .ok (.value (.int .i64 (dh 101))) w:=by kernel_rfl
theorem Uk(w:World):(callFunc 228 #[.string ⟨#[65,66,67,68,71,100,72,102,64,80,88,76,77]⟩,.int .u8 102]).run prog w= .ok (.value (.int .i64 (dh 102))) w:=by kernel_rfl
theorem Ul(w:World):(callFunc 228 #[.string ⟨#[65,66,67,68,71,100,72,102,64,80,88,76,77]⟩,.int .u8 103]).run prog w= .ok (.value (.int .i64 (dh 103))) w:=by kernel_rfl
theorem Um(w:World):(callFunc 228 #[.string ⟨#[65,66,67,68,71,100,72,102,64,80,88,76,77]⟩,.int .u8 104]).run prog w= .ok (.value (.int .i64 (dh 104))) w:=by kernel_rfl
theorem Un(w:World):(callFunc 228 #[.string ⟨#[65,66,67,68,71,100,72,102,64,80,88,76,77]⟩,.int .u8 105]).run prog w= .ok (.value (.int .i64 (dh 105))) w:=by kernel_rfl
theorem Uo(w:World):(callFunc 228 #[.string ⟨#[65,66,67,68,71,100,72,102,64,80,88,76,77]⟩,.int .u8 106]).run prog w= .ok (.value (.int .i64 (dh 106))) w:=by kernel_rfl
theorem Uq(w:World):(callFunc 228 #[.string ⟨#[65,66,67,68,71,100,72,102,64,80,88,76,77]⟩,.int .u8 107]).run prog w= .ok (.value (.int .i64 (dh 107))) w:=by kernel_rfl
theorem Ur(w:World):(callFunc 228 #[.string ⟨#[65,66,67,68,71,100,72,102,64,80,88,76,77]⟩,.int .u8 108]).run prog w= .ok (.value (.int .i64 (dh 108))) w:=by kernel_rfl
theorem Ut(w:World):(callFunc 228 #[.string ⟨#[65,66,67,68,71,100,72,102,64,80,88,76,77]⟩,.int .u8 109]).run prog w= .ok (.value (.int .i64 (dh 109))) w:=by kernel_rfl
theorem Uu(w:World):(callFunc 228 #[.string ⟨#[65,66,67,68,71,100,72,102,64,80,88,76,77]⟩,.int .u8 110]).run prog w= .ok (.value (.int .i64 (dh 110))) w:=by kernel_rfl
theorem Uv(w:World):(callFunc 228 #[.string ⟨#[65,66,67,68,71,100,72,102,64,80,88,76,77]⟩,.int .u8 111]).run prog w= .ok (.value (.int .i64 (dh 111))) w:=by kernel_rfl
theorem Uw(w:World):(callFunc 228 #[.string ⟨#[65,66,67,68,71,100,72,102,64,80,88,76,77]⟩,.int .u8 112]).run prog w= .ok (.value (.int .i64 (dh 112))) w:=by kernel_rfl
theorem Ux(w:World):(callFunc 228 #[.string ⟨#[65,66,67,68,71,100,72,102,64,80,88,76,77]⟩,.int .u8 113]).run prog w= .ok (.value (.int .i64 (dh 113))) w:=by kernel_rfl
theorem Uy(w:World):(callFunc 228 #[.string ⟨#[65,66,67,68,71,100,72,102,64,80,88,76,77]⟩,.int .u8 114]).run prog w= .ok (.value (.int .i64 (dh 114))) w:=by kernel_rfl
theorem Uz(w:World):(callFunc 228 #[.string ⟨#[65,66,67,68,71,100,72,102,64,80,88,76,77]⟩,.int .u8 115]).run prog w= .ok (.value (.int .i64 (dh 115))) w:=by kernel_rfl
theorem UA(w:World):(callFunc 228 #[.string ⟨#[65,66,67,68,71,100,72,102,64,80,88,76,77]⟩,.int .u8 116]).run prog w= .ok (.value (.int .i64 (dh 116))) w:=by kernel_rfl
theorem UB(w:World):(callFunc 228 #[.string ⟨#[65,66,67,68,71,100,72,102,64,80,88,76,77]⟩,.int .u8 117]).run prog w= .ok (.value (.int .i64 (dh 117))) w:=by kernel_rfl
theorem UC(w:World):(callFunc 228 #[.string ⟨#[65,66,67,68,71,100,72,102,64,80,88,76,77]⟩,.int .u8 118]).run prog w= .ok (.value (.int .i64 (dh 118))) w:=by kernel_rfl
theorem UD(w:World):(callFunc 228 #[.string ⟨#[65,66,67,68,71,100,72,102,64,80,88,76,77]⟩,.int .u8 119]).run prog w= .ok (.value (.int .i64 (dh 119))) w:=by kernel_rfl
theorem UE(w:World):(callFunc 228 #[.string ⟨#[65,66,67,68,71,100,72,102,64,80,88,76,77]⟩,.int .u8 120]).run prog w= .ok (.value (.int .i64 (dh 120))) w:=by kernel_rfl
theorem UF(w:World):(callFunc 228 #[.string ⟨#[65,66,67,68,71,100,72,102,64,80,88,76,77]⟩,.int .u8 121]).run prog w= .ok (.value (.int .i64 (dh 121))) w:=by kernel_rfl
theorem UG(w:World):(callFunc 228 #[.string ⟨#[65,66,67,68,71,100,72,102,64,80,88,76,77]⟩,.int .u8 122]).run prog w= .ok (.value (.int .i64 (dh 122))) w:=by kernel_rfl
theorem UH(w:World):(callFunc 228 #[.string ⟨#[65,66,67,68,71,100,72,102,64,80,88,76,77]⟩,.int .u8 123]).run prog w= .ok (.value (.int .i64 (dh 123))) w:=by kernel_rfl
theorem UI(w:World):(callFunc 228 #[.string ⟨#[65,66,67,68,71,100,72,102,64,80,88,76,77]⟩,.int .u8 124]).run prog w= .ok (.value (.int .i64 (dh 124))) w:=by kernel_rfl
theorem UJ(w:World):(callFunc 228 #[.string ⟨#[65,66,67,68,71,100,72,102,64,80,88,76,77]⟩,.int .u8 125]).run prog w= .ok (.value (.int .i64 (dh 125))) w:=by kernel_rfl
theorem UK(w:World):(callFunc 228 #[.string ⟨#[65,66,67,68,71,100,72,102,64,80,88,76,77]⟩,.int .u8 126]).run prog w= .ok (.value (.int .i64 (dh 126))) w:=by kernel_rfl
theorem Q3(c:Int)(h:64≤c∧c≤126)(w:World):(callFunc 228 #[.string ⟨#[65,66,67,68,71,100,72,102,64,80,88,76,77]⟩,.int .u8 c]).run prog w= .ok (.value (.int .i64 (dh c))) w:=by
 rcases(show c=64∨c=65∨c=66∨c=67∨c=68∨c=69∨c=70∨c=71∨c=72∨c=73∨c=74∨c=75∨c=76∨c=77∨c=78∨c=79∨c=80∨c=81∨c=82∨c=83∨c=84∨c=85∨c=86∨c=87∨c=88∨c=89∨c=90∨c=91∨c=92∨c=93∨c=94∨c=95∨c=96∨c=97∨c=98∨c=99∨c=100∨c=101∨c=102∨c=103∨c=104∨c=105∨c=106∨c=107∨c=108∨c=109∨c=110∨c=111∨c=112∨c=113∨c=114∨c=115∨c=116∨c=117∨c=118∨c=119∨c=120∨c=121∨c=122∨c=123∨c=124∨c=125∨c=126 by omega)with rfl|rfl|rfl|rfl|rfl|rfl|rfl|rfl|rfl|rfl|rfl|rfl|rfl|rfl|rfl|rfl|rfl|rfl|rfl|rfl|rfl|rfl|rfl|rfl|rfl|rfl|rfl|rfl|rfl|rfl|rfl|rfl|rfl|rfl|rfl|rfl|rfl|rfl|rfl|rfl|rfl|rfl|rfl|rfl|rfl|rfl|rfl|rfl|rfl|rfl|rfl|rfl|rfl|rfl|rfl|rfl|rfl|rfl|rfl|rfl|rfl|rfl|rfl
 ·exact Yc w
 ·exact Yd w
 ·exact Ye w
 ·exact Yf w
 ·exact Yg w
 ·exact Yh w
 ·exact Yi w
 ·exact Yj w
 ·exact Yk w
 ·exact Yl w
 ·exact Ym w
 ·exact Yn w
 ·exact Yo w
 ·exact Yp w
 ·exact Yq w
 ·exact Yr w
 ·exact Yt w
 ·exact Yu w
 ·exact Yv w
 ·exact Yw w
 ·exact Yx w
 ·exact Yy w
 ·exact Yz w
 ·exact YA w
 ·exact YB w
 ·exact YC w
 ·exact YD w
 ·exact YE w
 ·exact YF w
 ·exact YG w
 ·exact YH w
 ·exact YI w
 ·exact YJ w
 ·exact YK w
 ·exact YL w
 ·exact YM w
 ·exact Ui w
 ·exact Uj w
 ·exact Uk w
 ·exact Ul w
 ·exact Um w
 ·exact Un w
 ·exact Uo w
 ·exact Uq w
 ·exact Ur w
 ·exact Ut w
 ·exact Uu w
 ·exact Uv w
 ·exact Uw w
 ·exact Ux w
 ·exact Uy w
 ·exact Uz w
 ·exact UA w
 ·exact UB w
 ·exact UC w
 ·exact UD w
 ·exact UE w
 ·exact UF w
 ·exact UG w
 ·exact UH w
 ·exact UI w
 ·exact UJ w
 ·exact UK w
theorem OL(c:Int)(h:64≤c∧c≤126):decide (0≤dh c)=TS.mW c:=by rcases(show c=64∨c=65∨c=66∨c=67∨c=68∨c=69∨c=70∨c=71∨c=72∨c=73∨c=74∨c=75∨c=76∨c=77∨c=78∨c=79∨c=80∨c=81∨c=82∨c=83∨c=84∨c=85∨c=86∨c=87∨c=88∨c=89∨c=90∨c=91∨c=92∨c=93∨c=94∨c=95∨c=96∨c=97∨c=98∨c=99∨c=100∨c=101∨c=102∨c=103∨c=104∨c=105∨c=106∨c=107∨c=108∨c=109∨c=110∨c=111∨c=112∨c=113∨c=114∨c=115∨c=116∨c=117∨c=118∨c=119∨c=120∨c=121∨c=122∨c=123∨c=124∨c=125∨c=126 by omega)with rfl|rfl|rfl|rfl|rfl|rfl|rfl|rfl|rfl|rfl|rfl|rfl|rfl|rfl|rfl|rfl|rfl|rfl|rfl|rfl|rfl|rfl|rfl|rfl|rfl|rfl|rfl|rfl|rfl|rfl|rfl|rfl|rfl|rfl|rfl|rfl|rfl|rfl|rfl|rfl|rfl|rfl|rfl|rfl|rfl|rfl|rfl|rfl|rfl|rfl|rfl|rfl|rfl|rfl|rfl|rfl|rfl|rfl|rfl|rfl|rfl|rfl|rfl<;>rfl
theorem Lg(c:Int)(h:64≤c∧c≤126)(w:World):Calls prog 133 #[.string ⟨#[65,66,67,68,71,100,72,102,64,80,88,76,77]⟩,.int .u8 c] w fun e w'=>e= .returned (.int .i64 (dh c))∧w'=w:=by
 have l1:Calls prog 176 #[.string ⟨#[65,66,67,68,71,100,72,102,64,80,88,76,77]⟩,.int .u8 c] w fun e w'=>e= .returned (.int .i64 (dh c))∧w'=w:=by have h:=Q3 c h w;go_enter func176,ntmps176;go_wp2_with fail;go_ret;exact⟨rfl,rfl⟩
 generalize dh c=r at*;go_enter func133,ntmps133;go_wp2_with (go_at_call 176;refine l1.mono ?_;rintro e w1 ⟨rfl,hw1⟩;have hw2:=hw1.symm;subst hw2);go_ret;exact⟨rfl,rfl⟩
theorem TS.Inv.move{s:TS}(h:s.Inv)(f p0 p1:Int):(s.move f p0 p1).Inv:=by
 have ht:0≤TS.times p0:=by unfold TS.times;omega
 unfold TS.move
 repeat' split
 ·exact h.rise _ ht
 ·exact h.sink _ ht
 ·exact h.bD _
 ·exact h.bD _
 ·exact h.bD _
 ·exact h.aW _
 ·exact(h.aW _).bD _
 ·exact h
theorem TS.Inv.dD{s:TS}(h:s.Inv)(what:Int):(s.dD what).Inv:=by
 unfold TS.dD
 repeat' split
 ·exact h.setCur (by rw[fG];exact h.nW)
 ·exact h.setCur (by rw[fG];exact h.nW)
 ·exact h.setCur (by rw[fG];exact h.nW)
 ·exact h
theorem TS.Inv.edit{s:TS}(h:s.Inv)(f p0:Int):(s.edit f p0).Inv:=by
 unfold TS.edit;dsimp only
 repeat' split
 ·exact(h.dA _).dD _
 ·exact h.dA _
 ·exact h.aI _
 ·exact h.aI _
 ·exact h.aI _
 ·exact(h.setCur (by rw[pK];exact h.nW)).bD 0
 ·exact h
 ·exact(h.setCur (by rw[t_];exact h.nW)).bD 0
 ·exact h
 ·exact h.fe _
 ·exact h.eG _
 ·exact h
theorem TS.Inv.jo{s:TS}(h:s.Inv)(f:Int)(ps:List Int)(ct:Nat):(s.jo f ps ct).Inv:=by
 unfold TS.jo
 repeat' split
 ·exact h.fH _ _ (by unfold TS.times;omega)
 ·exact h.eD _
 ·exact TS.Inv.turns _ h
 ·exact h.upd rfl rfl rfl rfl rfl rfl rfl h.row0 h.iT h.fU h.gz h.gN h.tb h.bot h.sh
 ·exact h
 ·exact h
theorem TS.Inv.sequence{s:TS}(h:s.Inv)(mk f:Int)(ps:List Int)(ct:Nat):(s.sequence mk f ps ct).Inv:=by
 unfold TS.sequence;dsimp only
 repeat' split
 ·exact((h.aJ.move _ _ _).edit _ _).jo _ _ _
 ·exact((h.move _ _ _).edit _ _).jo _ _ _
 ·exact TS.Inv.sets _ _ h
 ·exact h
 ·exact h
theorem C_(L:Lay)(s:TS)(w:World)(ht:a_ w L s)(hi:s.Inv)(ev:List Int)(hev:ev.length=21)(ct:Nat)(hct:ev.getD 4 0=(ct:Int))(Y5:ct≤16)(hps:∀x∈ev.drop 5,-1≤x∧x≤65535)(hf:64≤ev.getD 3 0∧ev.getD 3 0≤126):
 Calls prog 80 #[.pointer (some ⟨L.tb,0,none⟩),.agg (aO ev)] w fun e w'=>e= .returned (.tuple #[])∧a_ w' L (s.sequence (ev.getD 2 0) (ev.getD 3 0) (ev.drop 5) ct)∧Ch L.own w w':=by
 have HTW:Hid _:=ht;have HT0:=ht.sm ((Ch.refl (fun _=>False) w).alloc (.cells (aO ev) 92));have B_:Hid ((w.alloc (.cells (aO ev) 92)).heap[w.heap.size]? =some (.cells (aO ev) 92 (0,0))):=bJ _ _;have e2:=gT (j:=2) B_.o (by omega);have e3:=gT (j:=3) B_.o (by omega);have e4:=gT (j:=4) B_.o (by omega);have g0:(ev.drop 5).getD 0 0=ev.getD 5 0:=by simp[List.getD]
 have g1:(ev.drop 5).getD 1 0=ev.getD 6 0:=by simp[List.getD]
 have hb5: -1≤ev.getD 5 0∧ev.getD 5 0≤65535:=by rw[←g0];refine hps _ ?_;simp[List.getD,gK (show 5<ev.length by omega)];exact List.mem_iff_getElem.2 ⟨0,by simp;omega,by simp⟩
 have hb6: -1≤ev.getD 6 0∧ev.getD 6 0≤65535:=by rw[←g1];refine hps _ ?_;simp[List.getD,gK (show 6<ev.length by omega)];exact List.mem_iff_getElem.2 ⟨1,by simp;omega,by simp⟩
 rw[hct]at e4;have jA:Hid (Ch L.own w (w.alloc (.cells (aO ev) 92))):=(Ch.refl _ _).alloc _;have AR:Hid (¬L.own w.heap.size):=fun h=>by have:=ht.jv h;omega
 have DF:Hid (w.heap.size<(w.alloc (.cells (aO ev) 92)).heap.size):=by show _<_;simp
 have hlt:=ht.lt;have lm:∀t u,a_ u L t→t.Inv→_:=fun t u h1 h2=>O4 L t u h1 h2 ev hev hb5 hb6;have le:∀t u,a_ u L t→t.Inv→_:=fun t u h1 h2=>Oj L t u h1 h2 ev hev hb5;have la:∀t u,a_ u L t→t.Inv→_:=fun t u h1 h2=>GM L t u h1 h2 ev hev ct hct Y5 hps;have hX:s.sequence (ev.getD 2 0) (ev.getD 3 0) (ev.drop 5) ct=if ev.getD 2 0=0 then(((if TS.mW (ev.getD 3 0)then s.aJ else s).move (ev.getD 3 0) (ev.getD 5 0) (ev.getD 6 0)).edit (ev.getD 3 0) (ev.getD 5 0)).jo (ev.getD 3 0) (ev.drop 5) ct
  else if ev.getD 2 0=63 then(if ev.getD 3 0=104∨ev.getD 3 0=108 then s.sets (decide (ev.getD 3 0=104)) ((ev.drop 5).take ct)else s)else s:=by unfold TS.sequence;rw[g0,g1]
 have hns:((ev.drop 5).take ct).length=ct:=by rw[jJ,wR];omega
 have hcs:∀u:World,u.heap[w.heap.size]? =some (.cells (aO ev) 92 (0,0))→∀j x,((ev.drop 5).take ct)[j]? =some x→u.cell? ⟨w.heap.size,5+j,none⟩=some (.int .i64 x):=fun u hu j x hx=>by
  rw[qA]at hx;split at hx
  ·rw[qC]at hx;have:=gT (j:=5+j) hu (ja.1 hx).1;rw[this];simp[List.getD,hx]
  ·cases hx
 have HCS:Hid _:=hcs;generalize s.sequence (ev.getD 2 0) (ev.getD 3 0) (ev.drop 5) ct=X at*;have HI:Hid s.Inv:=hi;have HT:Hid _:=HT0;have hst:=OL (ev.getD 3 0) hf;have lx:∀u,_:=fun u=>Lg (ev.getD 3 0) hf u;have c28:=ht.c 28 _ rfl;have f28:=ht.f 28;have vu:IntKind.u8.wrap (ev.getD 3 0)=ev.getD 3 0:=by rw[IntKind.wrap_u8];omega
 clear ht hi HT0 g0 g1 hcs hct hb5 hb6 hps;generalize ev.getD 2 0=mk at*;generalize ev.getD 3 0=f at*;generalize ev.getD 5 0=p0 at*;generalize ev.getD 6 0=p1 at*;generalize ev.drop 5=ps at*;by_cases hm:mk=0
 ·subst hm;rw[aS rfl]at hX;cases hs:TS.mW f with
  |true=>
   rw[hs]at hX hst;rw[aS rfl]at hX;have hq:0≤dh f:=nG hst;generalize dh f=r at*;have HX:Hid _:=hX;have W_:Hid (a_ ((w.setCell ⟨L.tb,28,none⟩ (.bool false)).alloc (.cells (aO ev) 92)) L s.aJ):=(HTW.o.set (s':=s.aJ) 28 (.bool false) rfl rfl rfl rfl rfl).sm ((Ch.refl _ _).alloc _);have Ws:Hid (Ch L.own w ((w.setCell ⟨L.tb,28,none⟩ (.bool false)).alloc (.cells (aO ev) 92))):=((Ch.refl _ _).jI _ _).alloc _;have Tk:Hid s.aJ.Inv:=HI.o.aJ;have Qv:Hid (((w.setCell ⟨L.tb,28,none⟩ (.bool false)).alloc (.cells (aO ev) 92)).heap[w.heap.size]? =some (.cells (aO ev) 92 (0,0))):=by have:=bJ (w.setCell ⟨L.tb,28,none⟩ (.bool false)) (.cells (aO ev) 92);rwa[show(w.setCell ⟨L.tb,28,none⟩ (.bool false)).heap.size=w.heap.size by simp[World.setCell]]at this
   have WZ:Hid (w.heap.size<((w.setCell ⟨L.tb,28,none⟩ (.bool false)).alloc (.cells (aO ev) 92)).heap.size):=bM Qv.o;clear hX hst hs HT jA B_;go_enter func80,ntmps80;go_wp2_with (first|(go_at_call 133;refine(lx _).mono ?_;rintro e w0 ⟨rfl,hw1⟩;have hw2:=hw1.symm;subst hw2)|(go_at_call 134;refine(lm s.aJ _ W_.o Tk.o).mono ?_;rintro e w1 ⟨rfl,h1,c1⟩;have he1:=(c1.block w.heap.size WZ.o AR.o).trans Qv.o)|(go_at_call 135;refine(le _ _ h1 (Tk.o.move _ _ _)).mono ?_;rintro e w2 ⟨rfl,h2,c2⟩;have he2:=(c2.block w.heap.size (aH WZ.o c1.size) AR.o).trans he1)|(go_at_call 136;refine(la _ _ h2 ((Tk.o.move _ _ _).edit _ _)).mono ?_;rintro e w3 ⟨rfl,h3,c3⟩)|(refine jh _ rfl (.tmp 3) rfl w.heap.size ev rfl hev 92 (0,0) he2 ?_)|(refine jh _ rfl (.tmp 3) rfl w.heap.size ev rfl hev 92 (0,0) he1 ?_)|(refine jh _ rfl (.tmp 3) rfl w.heap.size ev rfl hev 92 (0,0) Qv.o ?_));go_end0;exact⟨rfl,by rw[HX.o];exact h3,Ws.o.trans (c1.trans (c2.trans c3))⟩
  |false=>rw[hs]at hX hst;rw[aG (by simp)]at hX;have hq:¬0≤dh f:=of_decide_eq_false hst;have dq:decide (0≤dh f)=false:=hst;generalize dh f=r at*;have HX:Hid _:=hX;have W_:Hid (a_ (w.alloc (.cells (aO ev) 92)) L s):=HT.o;have Ws:Hid (Ch L.own w (w.alloc (.cells (aO ev) 92))):=jA.o;have Tk:Hid s.Inv:=HI.o;have Qv:Hid ((w.alloc (.cells (aO ev) 92)).heap[w.heap.size]? =some (.cells (aO ev) 92 (0,0))):=B_.o;have WZ:Hid (w.heap.size<(w.alloc (.cells (aO ev) 92)).heap.size):=DF.o;clear hX hst hs HT jA B_;go_enter func80,ntmps80;go_wp2_with (first|(go_at_call 133;refine(lx _).mono ?_;rintro e w0 ⟨rfl,hw1⟩;have hw2:=hw1.symm;subst hw2)|(go_at_call 134;refine(lm s _ W_.o Tk.o).mono ?_;rintro e w1 ⟨rfl,h1,c1⟩;have he1:=(c1.block w.heap.size WZ.o AR.o).trans Qv.o)|(go_at_call 135;refine(le _ _ h1 (Tk.o.move _ _ _)).mono ?_;rintro e w2 ⟨rfl,h2,c2⟩;have he2:=(c2.block w.heap.size (aH WZ.o c1.size) AR.o).trans he1)|(go_at_call 136;refine(la _ _ h2 ((Tk.o.move _ _ _).edit _ _)).mono ?_;rintro e w3 ⟨rfl,h3,c3⟩)|(refine jh _ rfl (.tmp 3) rfl w.heap.size ev rfl hev 92 (0,0) he2 ?_)|(refine jh _ rfl (.tmp 3) rfl w.heap.size ev rfl hev 92 (0,0) he1 ?_)|(refine jh _ rfl (.tmp 3) rfl w.heap.size ev rfl hev 92 (0,0) Qv.o ?_));go_end0;exact⟨rfl,by rw[HX.o];exact h3,Ws.o.trans (c1.trans (c2.trans c3))⟩
 ·rw[aG hm]at hX;have b0:(mk==0)=false:=by simp[hm]
  by_cases hm2:mk=63
  ·rw[aS hm2]at hX;have b1:(mk==63)=true:=by simp[hm2]
   rcases(show f=104∨f=108∨¬(f=104∨f=108) by omega)with rfl|rfl|hq
   ·rw[aS (by omega)]at hX;have HX:Hid _:=hX;have Tf:=HCS.o _ B_.o;have i1:(ct:Int)≤16:=by omega
    clear hX hm hm2;go_enter func80,ntmps80;go_wp2_with fail;generalize hW:w.alloc (Obj.cells (aO ev) 92)=W at*;generalize hlb:w.heap.size=lb at*;have HT1:a_ ({W with drawn:=W.drawn+1}:World) L s:=HT.o.sm ((Ch.refl _ _).drewN 1);have l1:=Kr L s ({W with drawn:=W.drawn+1}:World) HT1 HI.o true lb 5 16 (ps.take ct) (by omega) Tf AR.o DF.o;rw[hns]at l1;have HH:World.cell? ({W with drawn:=W.drawn+1}:World) ⟨lb,4,none⟩=some (.int .i64 (ct:Int))∧World.cell? ({W with drawn:=W.drawn+1}:World) ⟨lb,3,none⟩=some (.int .i64 104):=⟨e4,e3⟩;refine fJ (S:=fun x=>x.cell? ⟨lb,4,none⟩=some (.int .i64 (ct:Int))∧x.cell? ⟨lb,3,none⟩=some (.int .i64 104)) bI ?_;refine aL 0 1 2 3 HH ?_;simp only[ah,ag];refine ak 4 HH ?_ (v:=.slice (some ⟨lb,5,none⟩) ct 16);refine g_ 5 6 HH ?_;refine ak 7 HH ?_ (v:=.bool true);simp only[ah,ag];refine aD 8 ?_;refine bR (vs:=[.pointer (some ⟨L.tb,0,none⟩),.slice (some ⟨lb,5,none⟩) ct 16,.bool true]) (R:=fun v w'=>v= .tuple #[]∧a_ w' L X∧Ch L.own W w') (l1.mono fun e w' h=>⟨_,h.1,rfl,by rw[HX.o];exact h.2.1,⟨h.2.2.os,h.2.2.tape,h.2.2.output,h.2.2.size,h.2.2.block⟩⟩) ?_;rintro v2 w9 ⟨rfl,t9,c9⟩;refine⟨⟨(eT (c9.block lb DF.o AR.o)).trans e4,(eT (c9.block lb DF.o AR.o)).trans e3⟩,?_⟩;simp only[ah,ag];refine aM ?_;have HF:Hid (a_ w9 L X∧Ch L.own w w9):=⟨t9,jA.o.trans c9⟩;clear t9 c9 HT1 HH l1;go_wp2_with fail;go_end0;exact⟨rfl,HF.o.1,HF.o.2⟩
   ·rw[aS (by omega)]at hX;have HX:Hid _:=hX;have Tf:=HCS.o _ B_.o;have i1:(ct:Int)≤16:=by omega
    clear hX hm hm2;go_enter func80,ntmps80;go_wp2_with fail;generalize hW:w.alloc (Obj.cells (aO ev) 92)=W at*;generalize hlb:w.heap.size=lb at*;have HT1:a_ ({W with drawn:=W.drawn+1}:World) L s:=HT.o.sm ((Ch.refl _ _).drewN 1);have l1:=Kr L s ({W with drawn:=W.drawn+1}:World) HT1 HI.o false lb 5 16 (ps.take ct) (by omega) Tf AR.o DF.o;rw[hns]at l1;have HH:World.cell? ({W with drawn:=W.drawn+1}:World) ⟨lb,4,none⟩=some (.int .i64 (ct:Int))∧World.cell? ({W with drawn:=W.drawn+1}:World) ⟨lb,3,none⟩=some (.int .i64 108):=⟨e4,e3⟩;refine fJ (S:=fun x=>x.cell? ⟨lb,4,none⟩=some (.int .i64 (ct:Int))∧x.cell? ⟨lb,3,none⟩=some (.int .i64 108)) bI ?_;refine aL 0 1 2 3 HH ?_;simp only[ah,ag];refine ak 4 HH ?_ (v:=.slice (some ⟨lb,5,none⟩) ct 16);refine g_ 5 6 HH ?_;refine ak 7 HH ?_ (v:=.bool false);simp only[ah,ag];refine aD 8 ?_;refine bR (vs:=[.pointer (some ⟨L.tb,0,none⟩),.slice (some ⟨lb,5,none⟩) ct 16,.bool false]) (R:=fun v w'=>v= .tuple #[]∧a_ w' L X∧Ch L.own W w') (l1.mono fun e w' h=>⟨_,h.1,rfl,by rw[HX.o];exact h.2.1,⟨h.2.2.os,h.2.2.tape,h.2.2.output,h.2.2.size,h.2.2.block⟩⟩) ?_;rintro v2 w9 ⟨rfl,t9,c9⟩;refine⟨⟨(eT (c9.block lb DF.o AR.o)).trans e4,(eT (c9.block lb DF.o AR.o)).trans e3⟩,?_⟩;simp only[ah,ag];refine aM ?_;have HF:Hid (a_ w9 L X∧Ch L.own w w9):=⟨t9,jA.o.trans c9⟩;clear t9 c9 HT1 HH l1;go_wp2_with fail;go_end0;exact⟨rfl,HF.o.1,HF.o.2⟩
   ·rw[aG hq]at hX;have HX:Hid _:=hX;have b2:(f==104)=false:=by simp;omega
    have b3:(f==108)=false:=by simp;omega
    clear hX hq hm hm2;go_enter func80,ntmps80;go_wp2_with fail;go_end0;exact⟨rfl,by rw[HX.o];exact HT.o,jA.o⟩
  ·rw[aG hm2]at hX;have b1:(mk==63)=false:=by simp[hm2]
   have HX:Hid _:=hX;clear hX hm hm2;go_enter func80,ntmps80;go_wp2_with fail;go_end0;exact⟨rfl,by rw[HX.o];exact HT.o,jA.o⟩
def TS.take (s:TS) (ev:List Int):TS:=
 if ev.getD 0 0=1 then s.print (ev.getD 1 0) (nD (ev.getD 1 0)).toNat else if ev.getD 0 0=2 then s.control (ev.getD 1 0)
 else if ev.getD 0 0=3 then s.escape (ev.getD 2 0) (ev.getD 3 0)else if ev.getD 0 0=4 then s.sequence (ev.getD 2 0) (ev.getD 3 0) (ev.drop 5) (ev.getD 4 0).toNat else s
structure Gz (ev:List Int):Prop where
 len:ev.length=21
 ct:0≤ev.getD 4 0∧ev.getD 4 0≤16
 ps:∀x∈ev.drop 5,-1≤x∧x≤65535
 fin:ev.getD 0 0=4→64≤ev.getD 3 0∧ev.getD 3 0≤126
theorem zQ(c:Int):0≤nD c∧nD c≤2:=by
 unfold nD;have h:∀l:List (Int × Int × Int),(∀x∈l,0≤x.2.2∧x.2.2≤2)→0≤lq c l∧lq c l≤2:=by
  intro l;induction l with
  |nil=>intro _;simp[lq]
  |cons x l ih=>
   intro hx;obtain⟨a,b,y⟩:=x;simp only[lq];split
   ·exact hx (a,b,y) (by simp)
   ·exact ih fun z hz=>hx z (by simp[hz])
 refine h v_ ?_;intro x hx;simp only[v_,di,eU,eX]at hx;rcases hx with rfl|rfl|rfl|rfl|rfl|rfl|rfl|rfl|rfl|rfl|rfl|rfl|rfl|rfl<;>exact⟨by decide,by decide⟩
theorem TS.Inv.lW{s:TS}(h:s.Inv):s.lW.Inv:=h.bD _
theorem TS.Inv.step{s:TS}(h:s.Inv)(wd:Nat):(s.step wd).Inv:=by have:=h.bD (s.col+(wd:Int));exact this.upd rfl rfl rfl rfl rfl rfl rfl this.row0 this.iT this.fU this.gz this.gN this.tb this.bot this.sh
theorem TS.Inv.iG{s:TS}(h:s.Inv)(c:Int)(wd:Nat):(s.iG c wd).Inv:=by
 unfold TS.iG;split
 ·exact TS.Inv.step (TS.Inv.aI (h.aI _) _) _
 ·exact TS.Inv.step (h.aI _) _
theorem TS.Inv.dS{s:TS}(h:s.Inv):s.dS.Inv:=by
 unfold TS.dS;split
 ·exact h.aJ.aT
 ·exact h
theorem TS.Inv.print{s:TS}(h:s.Inv)(c:Int)(wd:Nat):(s.print c wd).Inv:=by
 unfold TS.print
 repeat' split
 ·exact h
 ·exact h.dS.aT.iG _ _
 ·exact h.dS
 ·exact h.dS.iG _ _
theorem TS.Inv.use{s:TS}(h:s.Inv)(u:Int):({s with use:=u}:TS).Inv:=h.upd rfl rfl rfl rfl rfl rfl rfl h.row0 h.iT h.fU h.gz h.gN h.tb h.bot h.sh
theorem TS.Inv.control{s:TS}(h:s.Inv)(c:Int):(s.control c).Inv:=by
 have h1:(if 8≤c∧c≤13 then s.aJ else s).Inv:=by
  split
  ·exact h.aJ
  ·exact h
 unfold TS.control;dsimp only;generalize (if 8≤c∧c≤13 then s.aJ else s)=t at*
 repeat' split
 ·exact h1.bD _
 ·exact h1.lW
 ·exact h1.down
 ·exact h1.bD _
 ·exact h1.use 1
 ·exact h1.use 0
 ·exact h1
theorem TS.Inv.save{s:TS}(h:s.Inv):s.save.Inv:=by
 unfold TS.save;split
 ·exact⟨h.r1,h.r2,h.c1,h.c2,h.row0,h.iT,h.fU,h.gz,h.gN,h.tb,h.bot,h.sh,h.l0,h.l1,h.lt,⟨h.row0,h.iT⟩,⟨h.fU,h.gz⟩,h.VX,h.VW⟩
 ·exact⟨h.r1,h.r2,h.c1,h.c2,h.row0,h.iT,h.fU,h.gz,h.gN,h.tb,h.bot,h.sh,h.l0,h.l1,h.lt,h.VV,h.VU,⟨h.row0,h.iT⟩,⟨h.fU,h.gz⟩⟩
theorem TS.Inv.restore{s:TS}(h:s.Inv):s.restore.Inv:=by
 have hv:(0≤s.saved.row∧s.saved.row<(s.rows:Int))∧(0≤s.saved.col∧s.saved.col<(s.aa:Int)):=by
  unfold TS.saved;split
  ·exact⟨h.VV,h.VU⟩
  ·exact⟨h.VX,h.VW⟩
 have hr:0≤(if s.saved.origin then TS.bn s.saved.row s.top s.bottom else s.saved.row)∧(if s.saved.origin then TS.bn s.saved.row s.top s.bottom else s.saved.row)<(s.rows:Int):=by
  have:=h.gN;have:=h.tb;have:=h.bot;split
  ·unfold TS.bn;omega
  ·exact hv.1
 exact h.upd rfl rfl rfl rfl rfl rfl rfl hr.1 hr.2 hv.2.1 hv.2.2 h.gN h.tb h.bot h.sh
theorem TS.Inv.bare{s:TS}(h:s.Inv)(f:Int):(s.bare f).Inv:=by
 unfold TS.bare
 repeat' split
 ·exact h.save
 ·exact h.restore
 ·exact h.aJ.down
 ·exact h.aJ.up
 ·exact h.aJ.aT
 ·exact h.Db _ (by rw[qB];exact h.lt)
 ·exact TS.Inv.fresh ⟨h.r1,h.r2⟩ ⟨h.c1,h.c2⟩
 ·exact h
theorem TS.Inv.escape{s:TS}(h:s.Inv)(mk f:Int):(s.escape mk f).Inv:=by
 unfold TS.escape
 repeat' split
 ·exact h.bare f
 ·exact h.upd rfl rfl rfl rfl rfl rfl rfl h.row0 h.iT h.fU h.gz h.gN h.tb h.bot h.sh
 ·exact h.upd rfl rfl rfl rfl rfl rfl rfl h.row0 h.iT h.fU h.gz h.gN h.tb h.bot h.sh
 ·exact h
theorem TS.Inv.take{s:TS}(h:s.Inv)(ev:List Int):(s.take ev).Inv:=by
 unfold TS.take
 repeat' split
 ·exact h.print _ _
 ·exact h.control _
 ·exact h.escape _ _
 ·exact h.sequence _ _ _ _
 ·exact h
structure iE (w:World):Prop where
 sp:yB w
 le:jK w
 st:iX w
theorem iE.kept{w w':World}(h:iE w)(hb:∀k,k≤2→w'.heap[k]? =w.heap[k]?):iE w':=⟨h.sp.kept (hb 1 (by omega)),h.le.kept (hb 0 (by omega)),h.st.kept (hb 2 (by omega))⟩
theorem iE.ch{w w':World}(h:iE w){P:Nat→Prop}(c:Ch P w w')(hp:∀k,k≤2→¬P k):iE w':=by obtain⟨t,fr,h2⟩:=h.st;have hs:2<w.heap.size:=bM h2;exact h.kept fun k hk=>c.block k (by omega) (hp k hk)
theorem BS(L:Lay)(s:TS)(w:World)(ht:a_ w L s)(hi:s.Inv)(hL:L.Hi)(htb:iE w)(ev:List Int)(hev:Gz ev):Calls prog 41 #[.pointer (some ⟨L.tb,0,none⟩),.agg (aO ev)] w fun e w'=>e= .returned (.tuple #[])∧Next L w w' (s.take ev):=by
 have HT:=ht.sm ((Ch.refl (fun _=>False) w).alloc (.cells (aO ev) 92));have B_:Hid ((w.alloc (.cells (aO ev) 92)).heap[w.heap.size]? =some (.cells (aO ev) 92 (0,0))):=bJ _ _;have hl:=hev.len;have e0:=gT (j:=0) B_.o (by omega);have e1:=gT (j:=1) B_.o (by omega);have jA:Hid (Ch L.own w (w.alloc (.cells (aO ev) 92))):=(Ch.refl _ _).alloc _;have htw:=htb.ch ((Ch.refl (fun _=>False) w).alloc (.cells (aO ev) 92)) (fun _ _ h=>h);have hX:s.take ev=if ev.getD 0 0=1 then s.print (ev.getD 1 0) (nD (ev.getD 1 0)).toNat else if ev.getD 0 0=2 then s.control (ev.getD 1 0)
  else if ev.getD 0 0=3 then s.escape (ev.getD 2 0) (ev.getD 3 0)else if ev.getD 0 0=4 then s.sequence (ev.getD 2 0) (ev.getD 3 0) (ev.drop 5) (ev.getD 4 0).toNat else s:=rfl
 have hw:=zQ (ev.getD 1 0);have l1:=LP L s _ HT hi hL htw.sp htw.st (ev.getD 1 0) (nD (ev.getD 1 0)).toNat (by omega) (by omega);have l2:=Eo L s _ HT hi (ev.getD 1 0);have l3:=G7 L s _ HT hi ev hl;have l4:ev.getD 0 0=4→_:=fun h4=>C_ L s _ HT hi ev hl (ev.getD 4 0).toNat (by have:=hev.ct;omega) (by have:=hev.ct;omega) hev.ps (hev.fin h4);generalize s.take ev=X at*;have HHT:Hid _:=HT;clear ht hi hL htb htw hev HT;generalize ev.getD 0 0=kd at*;generalize ev.getD 1 0=ru at*;rcases(show kd=1∨kd=2∨kd=3∨kd=4∨¬(kd=1∨kd=2∨kd=3∨kd=4) by omega)with rfl|rfl|rfl|rfl|hk
 ·have HX:Hid _:=hX;clear hX l2 l3 l4;go_enter func41,ntmps41;go_wp2_with (go_at_call 77;refine l1.mono ?_;rintro e w1 ⟨rfl,h1,c1⟩);go_end0;exact⟨rfl,Next.ahead jA.o (Next.of (by rw[HX.o];exact h1) c1)⟩
 ·have HX:Hid _:=hX;clear hX l1 l3 l4;go_enter func41,ntmps41;go_wp2_with (go_at_call 78;refine l2.mono ?_;rintro e w1 ⟨rfl,h1,c1⟩);go_end0;exact⟨rfl,Next.ahead jA.o (Next.of (by rw[HX.o];exact h1) c1)⟩
 ·have HX:Hid _:=hX;clear hX l1 l2 l4;go_enter func41,ntmps41;go_wp2_with (first|(go_at_call 79;refine l3.mono ?_;rintro e w1 ⟨rfl,n1⟩)|(refine jh _ rfl (.tmp 3) rfl w.heap.size ev rfl hl 92 (0,0) B_.o ?_));go_end0;exact⟨rfl,Next.ahead jA.o (by rw[HX.o];exact n1)⟩
 ·have HX:Hid _:=hX;have l5:=l4 rfl;clear hX l1 l2 l3 l4;go_enter func41,ntmps41;go_wp2_with (first|(go_at_call 80;refine l5.mono ?_;rintro e w1 ⟨rfl,h1,c1⟩)|(refine jh _ rfl (.tmp 3) rfl w.heap.size ev rfl hl 92 (0,0) B_.o ?_));go_end0;exact⟨rfl,Next.ahead jA.o (Next.of (by rw[HX.o];exact h1) c1)⟩
 ·rw[aG (by omega),aG (by omega),aG (by omega),aG (by omega)]at hX;have HX:Hid _:=hX;have b1:(kd==1)=false:=by simp;omega
  have b2:(kd==2)=false:=by simp;omega
  have b3:(kd==3)=false:=by simp;omega
  have b4:(kd==4)=false:=by simp;omega
  clear hX hk l1 l2 l3 l4;go_enter func41,ntmps41;go_wp2_with fail;go_end0;exact⟨rfl,Next.ahead jA.o (Next.of (by rw[HX.o];exact HHT.o) (Ch.refl _ _))⟩
end Go.Proofs.YtheibfffilomcabGreatDoor
