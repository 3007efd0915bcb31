import Derived.Test.YtheibfffilomcaaGreatDoorTvU
import Derived.Test.YtheibfffilomcaaGreatDoorTmaU
set_option linter.all false
set_option maxRecDepth 100000
set_option maxHeartbeats 2000000
namespace Go.Proofs.YtheibfffilomcaaGreatDoor
open Go.RowKit Go.Proofs.Tryz
def fH (c:Int):Int:=if c=65 then 0 else if c=66 then 1 else if c=67 then 2 else if c=68 then 3 else if c=71 then 4 else if c=100 then 5 else if c=72 then 6 else if c=102 then 7 else if c=64 then 8 else if c=80 then 9 else if c=88 then 10 else if c=76 then 11 else if c=77 then 12 else-1
theorem aa7(w:World):(callFunc 230 #[.string ⟨#[65,66,67,68,71,100,72,102,64,80,88,76,77]⟩,.int .u8 64]).run prog w= .ok (.value (.int .i64 (fH 64))) w:=by kernel_rfl
theorem aa8(w:World):(callFunc 230 #[.string ⟨#[65,66,67,68,71,100,72,102,64,80,88,76,77]⟩,.int .u8 65]).run prog w= .ok (.value (.int .i64 (fH 65))) w:=by kernel_rfl
theorem aa9(w:World):(callFunc 230 #[.string ⟨#[65,66,67,68,71,100,72,102,64,80,88,76,77]⟩,.int .u8 66]).run prog w= .ok (.value (.int .i64 (fH 66))) w:=by kernel_rfl
theorem aa_(w:World):(callFunc 230 #[.string ⟨#[65,66,67,68,71,100,72,102,64,80,88,76,77]⟩,.int .u8 67]).run prog w= .ok (.value (.int .i64 (fH 67))) w:=by kernel_rfl
theorem aba(w:World):(callFunc 230 #[.string ⟨#[65,66,67,68,71,100,72,102,64,80,88,76,77]⟩,.int .u8 68]).run prog w= .ok (.value (.int .i64 (fH 68))) w:=by kernel_rfl
theorem abb(w:World):(callFunc 230 #[.string ⟨#[65,66,67,68,71,100,72,102,64,80,88,76,77]⟩,.int .u8 69]).run prog w= .ok (.value (.int .i64 (fH 69))) w:=by kernel_rfl
theorem abd(w:World):(callFunc 230 #[.string ⟨#[65,66,67,68,71,100,72,102,64,80,88,76,77]⟩,.int .u8 70]).run prog w= .ok (.value (.int .i64 (fH 70))) w:=by kernel_rfl
theorem abe(w:World):(callFunc 230 #[.string ⟨#[65,66,67,68,71,100,72,102,64,80,88,76,77]⟩,.int .u8 71]).run prog w= .ok (.value (.int .i64 (fH 71))) w:=by kernel_rfl
theorem abf(w:World):(callFunc 230 #[.string ⟨#[65,66,67,68,71,100,72,102,64,80,88,76,77]⟩,.int .u8 72]).run prog w= .ok (.value (.int .i64 (fH 72))) w:=by kernel_rfl
theorem abg(w:World):(callFunc 230 #[.string ⟨#[65,66,67,68,71,100,72,102,64,80,88,76,77]⟩,.int .u8 73]).run prog w= .ok (.value (.int .i64 (fH 73))) w:=by kernel_rfl
theorem abh(w:World):(callFunc 230 #[.string ⟨#[65,66,67,68,71,100,72,102,64,80,88,76,77]⟩,.int .u8 74]).run prog w= .ok (.value (.int .i64 (fH 74))) w:=by kernel_rfl
theorem abj(w:World):(callFunc 230 #[.string ⟨#[65,66,67,68,71,100,72,102,64,80,88,76,77]⟩,.int .u8 75]).run prog w= .ok (.value (.int .i64 (fH 75))) w:=by kernel_rfl
theorem abk(w:World):(callFunc 230 #[.string ⟨#[65,66,67,68,71,100,72,102,64,80,88,76,77]⟩,.int .u8 76]).run prog w= .ok (.value (.int .i64 (fH 76))) w:=by kernel_rfl
theorem abl(w:World):(callFunc 230 #[.string ⟨#[65,66,67,68,71,100,72,102,64,80,88,76,77]⟩,.int .u8 77]).run prog w= .ok (.value (.int .i64 (fH 77))) w:=by kernel_rfl
theorem abm(w:World):(callFunc 230 #[.string ⟨#[65,66,67,68,71,100,72,102,64,80,88,76,77]⟩,.int .u8 78]).run prog w= .ok (.value (.int .i64 (fH 78))) w:=by kernel_rfl
theorem abn(w:World):(callFunc 230 #[.string ⟨#[65,66,67,68,71,100,72,102,64,80,88,76,77]⟩,.int .u8 79]).run prog w= .ok (.value (.int .i64 (fH 79))) w:=by kernel_rfl
theorem abo(w:World):(callFunc 230 #[.string ⟨#[65,66,67,68,71,100,72,102,64,80,88,76,77]⟩,.int .u8 80]).run prog w= .ok (.value (.int .i64 (fH 80))) w:=by kernel_rfl
theorem abp(w:World):(callFunc 230 #[.string ⟨#[65,66,67,68,71,100,72,102,64,80,88,76,77]⟩,.int .u8 81]).run prog w= .ok (.value (.int .i64 (fH 81))) w:=by kernel_rfl
theorem abq(w:World):(callFunc 230 #[.string ⟨#[65,66,67,68,71,100,72,102,64,80,88,76,77]⟩,.int .u8 82]).run prog w= .ok (.value (.int .i64 (fH 82))) w:=by kernel_rfl
theorem abr(w:World):(callFunc 230 #[.string ⟨#[65,66,67,68,71,100,72,102,64,80,88,76,77]⟩,.int .u8 83]).run prog w= .ok (.value (.int .i64 (fH 83))) w:=by kernel_rfl
theorem abt(w:World):(callFunc 230 #[.string ⟨#[65,66,67,68,71,100,72,102,64,80,88,76,77]⟩,.int .u8 84]).run prog w= .ok (.value (.int .i64 (fH 84))) w:=by kernel_rfl
theorem abu(w:World):(callFunc 230 #[.string ⟨#[65,66,67,68,71,100,72,102,64,80,88,76,77]⟩,.int .u8 85]).run prog w= .ok (.value (.int .i64 (fH 85))) w:=by kernel_rfl
theorem abv(w:World):(callFunc 230 #[.string ⟨#[65,66,67,68,71,100,72,102,64,80,88,76,77]⟩,.int .u8 86]).run prog w= .ok (.value (.int .i64 (fH 86))) w:=by kernel_rfl
theorem abw(w:World):(callFunc 230 #[.string ⟨#[65,66,67,68,71,100,72,102,64,80,88,76,77]⟩,.int .u8 87]).run prog w= .ok (.value (.int .i64 (fH 87))) w:=by kernel_rfl
theorem abx(w:World):(callFunc 230 #[.string ⟨#[65,66,67,68,71,100,72,102,64,80,88,76,77]⟩,.int .u8 88]).run prog w= .ok (.value (.int .i64 (fH 88))) w:=by kernel_rfl
theorem aby(w:World):(callFunc 230 #[.string ⟨#[65,66,67,68,71,100,72,102,64,80,88,76,77]⟩,.int .u8 89]).run prog w= .ok (.value (.int .i64 (fH 89))) w:=by kernel_rfl
theorem abz(w:World):(callFunc 230 #[.string ⟨#[65,66,67,68,71,100,72,102,64,80,88,76,77]⟩,.int .u8 90]).run prog w= .ok (.value (.int .i64 (fH 90))) w:=by kernel_rfl
theorem abA(w:World):(callFunc 230 #[.string ⟨#[65,66,67,68,71,100,72,102,64,80,88,76,77]⟩,.int .u8 91]).run prog w= .ok (.value (.int .i64 (fH 91))) w:=by kernel_rfl
theorem abB(w:World):(callFunc 230 #[.string ⟨#[65,66,67,68,71,100,72,102,64,80,88,76,77]⟩,.int .u8 92]).run prog w= .ok (.value (.int .i64 (fH 92))) w:=by kernel_rfl
theorem abC(w:World):(callFunc 230 #[.string ⟨#[65,66,67,68,71,100,72,102,64,80,88,76,77]⟩,.int .u8 93]).run prog w= .ok (.value (.int .i64 (fH 93))) w:=by kernel_rfl
theorem abD(w:World):(callFunc 230 #[.string ⟨#[65,66,67,68,71,100,72,102,64,80,88,76,77]⟩,.int .u8 94]).run prog w= .ok (.value (.int .i64 (fH 94))) w:=by kernel_rfl
theorem abE(w:World):(callFunc 230 #[.string ⟨#[65,66,67,68,71,100,72,102,64,80,88,76,77]⟩,.int .u8 95]).run prog w= .ok (.value (.int .i64 (fH 95))) w:=by kernel_rfl
theorem abF(w:World):(callFunc 230 #[.string ⟨#[65,66,67,68,71,100,72,102,64,80,88,76,77]⟩,.int .u8 96]).run prog w= .ok (.value (.int .i64 (fH 96))) w:=by kernel_rfl
theorem abG(w:World):(callFunc 230 #[.string ⟨#[65,66,67,68,71,100,72,102,64,80,88,76,77]⟩,.int .u8 97]).run prog w= .ok (.value (.int .i64 (fH 97))) w:=by kernel_rfl
theorem abH(w:World):(callFunc 230 #[.string ⟨#[65,66,67,68,71,100,72,102,64,80,88,76,77]⟩,.int .u8 98]).run prog w= .ok (.value (.int .i64 (fH 98))) w:=by kernel_rfl
theorem abI(w:World):(callFunc 230 #[.string ⟨#[65,66,67,68,71,100,72,102,64,80,88,76,77]⟩,.int .u8 99]).run prog w= .ok (.value (.int .i64 (fH 99))) w:=by kernel_rfl
theorem XO(w:World):(callFunc 230 #[.string ⟨#[65,66,67,68,71,100,72,102,64,80,88,76,77]⟩,.int .u8 100]).run prog w= .ok (.value (.int .i64 (fH 100))) w:=by kernel_rfl
theorem XQ(w:World):(callFunc 230 #[.string ⟨#[65,66,67,68,71,100,72,102,64,80,88,76,77]⟩,.int .u8 101]).run prog w= .ok (.value (.int .i64 (fH 101))) w:=by kernel_rfl
theorem XR(w:World):(callFunc 230 #[.string ⟨#[65,66,67,68,71,100,72,102,64,80,88,76,77]⟩,.int .u8 102]).run prog w= .ok (.value (.int .i64 (fH 102))) w:=by kernel_rfl
theorem XU(w:World):(callFunc 230 #[.string ⟨#[65,66,67,68,71,100,72,102,64,80,88,76,77]⟩,.int .u8 103]).run prog w= .ok (.value (.int .i64 (fH 103))) w:=by kernel_rfl
theorem XV(w:World):(callFunc 230 #[.string ⟨#[65,66,67,68,71,100,72,102,64,80,88,76,77]⟩,.int .u8 104]).run prog w= .ok (.value (.int .i64 (fH 104))) w:=by kernel_rfl
theorem XW(w:World):(callFunc 230 #[.string ⟨#[65,66,67,68,71,100,72,102,64,80,88,76,77]⟩,.int .u8 105]).run prog w= .ok (.value (.int .i64 (fH 105))) w:=by kernel_rfl
theorem XX(w:World):(callFunc 230 #[.string ⟨#[65,66,67,68,71,100,72,102,64,80,88,76,77]⟩,.int .u8 106]).run prog w= .ok (.value (.int .i64 (fH 106))) w:=by kernel_rfl
theorem XY(w:World):(callFunc 230 #[.string ⟨#[65,66,67,68,71,100,72,102,64,80,88,76,77]⟩,.int .u8 107]).run prog w= .ok (.value (.int .i64 (fH 107))) w:=by kernel_rfl
theorem XZ(w:World):(callFunc 230 #[.string ⟨#[65,66,67,68,71,100,72,102,64,80,88,76,77]⟩,.int .u8 108]).run prog w= .ok (.value (.int .i64 (fH 108))) w:=by kernel_rfl
theorem X4(w:World):(callFunc 230 #[.string ⟨#[65,66,67,68,71,100,72,102,64,80,88,76,77]⟩,.int .u8 109]).run prog w= .ok (.value (.int .i64 (fH 109))) w:=by kernel_rfl
theorem X5(w:World):(callFunc 230 #[.string ⟨#[65,66,67,68,71,100,72,102,64,80,88,76,77]⟩,.int .u8 110]).run prog w= .ok (.value (.int .i64 (fH 110))) w:=by kernel_rfl
theorem X6(w:World):(callFunc 230 #[.string ⟨#[65,66,67,68,71,100,72,102,64,80,88,76,77]⟩,.int .u8 111]).run prog w= .ok (.value (.int .i64 (fH 111))) w:=by kernel_rfl
theorem X7(w:World):(callFunc 230 #[.string ⟨#[65,66,67,68,71,100,72,102,64,80,88,76,77]⟩,.int .u8 112]).run prog w= .ok (.value (.int .i64 (fH 112))) w:=by kernel_rfl
theorem X8(w:World):(callFunc 230 #[.string ⟨#[65,66,67,68,71,100,72,102,64,80,88,76,77]⟩,.int .u8 113]).run prog w= .ok (.value (.int .i64 (fH 113))) w:=by kernel_rfl
theorem X9(w:World):(callFunc 230 #[.string ⟨#[65,66,67,68,71,100,72,102,64,80,88,76,77]⟩,.int .u8 114]).run prog w= .ok (.value (.int .i64 (fH 114))) w:=by kernel_rfl
theorem X_(w:World):(callFunc 230 #[.string ⟨#[65,66,67,68,71,100,72,102,64,80,88,76,77]⟩,.int .u8 115]).run prog w= .ok (.value (.int .i64 (fH 115))) w:=by kernel_rfl
theorem Ya(w:World):(callFunc 230 #[.string ⟨#[65,66,67,68,71,100,72,102,64,80,88,76,77]⟩,.int .u8 116]).run prog w= .ok (.value (.int .i64 (fH 116))) w:=by kernel_rfl
theorem Yb(w:World):(callFunc 230 #[.string ⟨#[65,66,67,68,71,100,72,102,64,80,88,76,77]⟩,.int .u8 117]).run prog w= .ok (.value (.int .i64 (fH 117))) w:=by kernel_rfl
theorem Yc(w:World):(callFunc 230 #[.string ⟨#[65,66,67,68,71,100,72,102,64,80,88,76,77]⟩,.int .u8 118]).run prog w= .ok (.value (.int .i64 (fH 118))) w:=by kernel_rfl
theorem Yd(w:World):(callFunc 230 #[.string ⟨#[65,66,67,68,71,100,72,102,64,80,88,76,77]⟩,.int .u8 119]).run prog w= .ok (.value (.int .i64 (fH 119))) w:=by kernel_rfl
theorem Ye(w:World):(callFunc 230 #[.string ⟨#[65,66,67,68,71,100,72,102,64,80,88,76,77]⟩,.int .u8 120]).run prog w= .ok (.value (.int .i64 (fH 120))) w:=by kernel_rfl
theorem Yf(w:World):(callFunc 230 #[.string ⟨#[65,66,67,68,71,100,72,102,64,80,88,76,77]⟩,.int .u8 121]).run prog w= .ok (.value (.int .i64 (fH 121))) w:=by kernel_rfl
theorem Yg(w:World):(callFunc 230 #[.string ⟨#[65,66,67,68,71,100,72,102,64,80,88,76,77]⟩,.int .u8 122]).run prog w= .ok (.value (.int .i64 (fH 122))) w:=by kernel_rfl
theorem Yh(w:World):(callFunc 230 #[.string ⟨#[65,66,67,68,71,100,72,102,64,80,88,76,77]⟩,.int .u8 123]).run prog w= .ok (.value (.int .i64 (fH 123))) w:=by kernel_rfl
theorem Yi(w:World):(callFunc 230 #[.string ⟨#[65,66,67,68,71,100,72,102,64,80,88,76,77]⟩,.int .u8 124]).run prog w= .ok (.value (.int .i64 (fH 124))) w:=by kernel_rfl
theorem Yj(w:World):(callFunc 230 #[.string ⟨#[65,66,67,68,71,100,72,102,64,80,88,76,77]⟩,.int .u8 125]).run prog w= .ok (.value (.int .i64 (fH 125))) w:=by kernel_rfl
theorem Yk(w:World):(callFunc 230 #[.string ⟨#[65,66,67,68,71,100,72,102,64,80,88,76,77]⟩,.int .u8 126]).run prog w= .ok (.value (.int .i64 (fH 126))) w:=by kernel_rfl
theorem UM(c:Int)(h:64≤c∧c≤126)(w:World):(callFunc 230 #[.string ⟨#[65,66,67,68,71,100,72,102,64,80,88,76,77]⟩,.int .u8 c]).run prog w= .ok (.value (.int .i64 (fH c))) w:=by
 rcases(show c=64∨c=65∨c=66∨c=67∨c=68∨c=69∨c=70∨c=71∨c=72∨c=73∨c=74∨c=75∨c=76∨c=77∨c=78∨c=79∨c=80∨c=81∨c=82∨c=83∨c=84∨c=85∨c=86∨c=87∨c=88∨c=89∨c=90∨c=91∨c=92∨c=93∨c=94∨c=95∨c=96∨c=97∨c=98∨c=99∨c=100∨c=101∨c=102∨c=103∨c=104∨c=105∨c=106∨c=107∨c=108∨c=109∨c=110∨c=111∨c=112∨c=113∨c=114∨c=115∨c=116∨c=117∨c=118∨c=119∨c=120∨c=121∨c=122∨c=123∨c=124∨c=125∨c=126 by omega)with rfl|rfl|rfl|rfl|rfl|rfl|rfl|rfl|rfl|rfl|rfl|rfl|rfl|rfl|rfl|rfl|rfl|rfl|rfl|rfl|rfl|rfl|rfl|rfl|rfl|rfl|rfl|rfl|rfl|rfl|rfl|rfl|rfl|rfl|rfl|rfl|rfl|rfl|rfl|rfl|rfl|rfl|rfl|rfl|rfl|rfl|rfl|rfl|rfl|rfl|rfl|rfl|rfl|rfl|rfl|rfl|rfl|rfl|rfl|rfl|rfl|rfl|rfl
 ·exact aa7 w
 ·exact aa8 w
 ·exact aa9 w
 ·exact aa_ w
 ·exact aba w
 ·exact abb w
 ·exact abd w
 ·exact abe w
 ·exact abf w
 ·exact abg w
 ·exact abh w
 ·exact abj w
 ·exact abk w
 ·exact abl w
 ·exact abm w
 ·exact abn w
 ·exact abo w
 ·exact abp w
 ·exact abq w
 ·exact abr w
 ·exact abt w
 ·exact abu w
 ·exact abv w
 ·exact abw w
 ·exact abx w
 ·exact aby w
 ·exact abz w
 ·exact abA w
 ·exact abB w
 ·exact abC w
 ·exact abD w
 ·exact abE w
 ·exact abF w
 ·exact abG w
 ·exact abH w
 ·exact abI w
 ·exact XO w
 ·exact XQ w
 ·exact XR w
 ·exact XU w
 ·exact XV w
 ·exact XW w
 ·exact XX w
 ·exact XY w
 ·exact XZ w
 ·exact X4 w
 ·exact X5 w
 ·exact X6 w
 ·exact X7 w
 ·exact X8 w
 ·exact X9 w
 ·exact X_ w
 ·exact Ya w
 ·exact Yb w
 ·exact Yc w
 ·exact Yd w
 ·exact Ye w
 ·exact Yf w
 ·exact Yg w
 ·exact Yh w
 ·exact Yi w
 ·exact Yj w
 ·exact Yk w
theorem Q3(c:Int)(h:64≤c∧c≤126):decide (0≤fH c)=TS.mZ c:=by rcases(show c=64∨c=65∨c=66∨c=67∨c=68∨c=69∨c=70∨c=71∨c=72∨c=73∨c=74∨c=75∨c=76∨c=77∨c=78∨c=79∨c=80∨c=81∨c=82∨c=83∨c=84∨c=85∨c=86∨c=87∨c=88∨c=89∨c=90∨c=91∨c=92∨c=93∨c=94∨c=95∨c=96∨c=97∨c=98∨c=99∨c=100∨c=101∨c=102∨c=103∨c=104∨c=105∨c=106∨c=107∨c=108∨c=109∨c=110∨c=111∨c=112∨c=113∨c=114∨c=115∨c=116∨c=117∨c=118∨c=119∨c=120∨c=121∨c=122∨c=123∨c=124∨c=125∨c=126 by omega)with rfl|rfl|rfl|rfl|rfl|rfl|rfl|rfl|rfl|rfl|rfl|rfl|rfl|rfl|rfl|rfl|rfl|rfl|rfl|rfl|rfl|rfl|rfl|rfl|rfl|rfl|rfl|rfl|rfl|rfl|rfl|rfl|rfl|rfl|rfl|rfl|rfl|rfl|rfl|rfl|rfl|rfl|rfl|rfl|rfl|rfl|rfl|rfl|rfl|rfl|rfl|rfl|rfl|rfl|rfl|rfl|rfl|rfl|rfl|rfl|rfl|rfl|rfl<;>rfl
theorem Nl(c:Int)(h:64≤c∧c≤126)(w:World):Calls prog 110 #[.string ⟨#[65,66,67,68,71,100,72,102,64,80,88,76,77]⟩,.int .u8 c] w fun e w'=>e= .returned (.int .i64 (fH c))∧w'=w:=by
 have l1:Calls prog 178 #[.string ⟨#[65,66,67,68,71,100,72,102,64,80,88,76,77]⟩,.int .u8 c] w fun e w'=>e= .returned (.int .i64 (fH c))∧w'=w:=by have h:=UM c h w;go_enter func178,ntmps178;go_wp2_with fail;go_ret;exact⟨rfl,rfl⟩
 generalize fH c=r at*;go_enter func110,ntmps110;go_wp2_with (go_at_call 178;refine l1.mono ?_;rintro e w1 ⟨rfl,hw1⟩;have hw2:=hw1.symm;subst hw2);go_ret;exact⟨rfl,rfl⟩
theorem TS.Inv.move{s:TS}(h:s.Inv)(f p0 p1:Int):(s.move f p0 p1).Inv:=by
 have ht:0≤TS.times p0:=by unfold TS.times;omega
 unfold TS.move
 repeat' split
 ·exact h.rise _ ht
 ·exact h.sink _ ht
 ·exact h.bQ _
 ·exact h.bQ _
 ·exact h.bQ _
 ·exact h.bJ _
 ·exact(h.bJ _).bQ _
 ·exact h
theorem TS.Inv.dY{s:TS}(h:s.Inv)(what:Int):(s.dY what).Inv:=by
 unfold TS.dY
 repeat' split
 ·exact h.setCur (by rw[fB];exact h.ql)
 ·exact h.setCur (by rw[fB];exact h.ql)
 ·exact h.setCur (by rw[fB];exact h.ql)
 ·exact h
theorem TS.Inv.edit{s:TS}(h:s.Inv)(f p0:Int):(s.edit f p0).Inv:=by
 unfold TS.edit;dsimp only
 repeat' split
 ·exact(h.dD _).dY _
 ·exact h.dD _
 ·exact h.aN _
 ·exact h.aN _
 ·exact h.aN _
 ·exact(h.setCur (by rw[qi];exact h.ql)).bQ 0
 ·exact h
 ·exact(h.setCur (by rw[uj];exact h.ql)).bQ 0
 ·exact h
 ·exact h.gQ _
 ·exact h.h_ _
 ·exact h
theorem TS.Inv.kC{s:TS}(h:s.Inv)(f:Int)(ps:List Int)(ct:Nat):(s.kC f ps ct).Inv:=by
 unfold TS.kC
 repeat' split
 ·exact h.gU _ _ (by unfold TS.times;omega)
 ·exact h.fM _
 ·exact TS.Inv.turns _ h
 ·exact h.upd rfl rfl rfl rfl rfl rfl rfl h.row0 h.jK h.jA h.jD h.iO h.tb h.bot h.sh
 ·exact h
 ·exact h
theorem TS.Inv.sequence{s:TS}(h:s.Inv)(mk f:Int)(ps:List Int)(ct:Nat):(s.sequence mk f ps ct).Inv:=by
 unfold TS.sequence;dsimp only
 repeat' split
 ·exact((h.aF.move _ _ _).edit _ _).kC _ _ _
 ·exact((h.move _ _ _).edit _ _).kC _ _ _
 ·exact TS.Inv.sets _ _ h
 ·exact h
 ·exact h
theorem Fq(L:Lay)(s:TS)(w:World)(ht:cO w L s)(hi:s.Inv)(ev:List Int)(hev:ev.length=21)(ct:Nat)(hct:ev.getD 4 0=(ct:Int))(abZ:ct≤16)(hps:∀x∈ev.drop 5,-1≤x∧x≤65535)(hf:64≤ev.getD 3 0∧ev.getD 3 0≤126):
 Calls prog 58 #[.pointer (some ⟨L.tb,0,none⟩),.agg (aA ev)] w fun e w'=>e= .returned (.tuple #[])∧cO w' L (s.sequence (ev.getD 2 0) (ev.getD 3 0) (ev.drop 5) ct)∧Ch L.own w w':=by
 have HTW:Hid _:=ht;have HT0:=ht.sm ((Ch.refl (fun _=>False) w).alloc (.cells (aA ev) 46));have Em:Hid ((w.alloc (.cells (aA ev) 46)).heap[w.heap.size]? =some (.cells (aA ev) 46 (0,0))):=bV _ _;have e2:=kD (j:=2) Em.o (by omega);have e3:=kD (j:=3) Em.o (by omega);have e4:=kD (j:=4) Em.o (by omega);have g0:(ev.drop 5).getD 0 0=ev.getD 5 0:=by simp[List.getD]
 have g1:(ev.drop 5).getD 1 0=ev.getD 6 0:=by simp[List.getD]
 have hb5: -1≤ev.getD 5 0∧ev.getD 5 0≤65535:=by rw[←g0];refine hps _ ?_;simp[List.getD,eG (show 5<ev.length by omega)];exact List.mem_iff_getElem.2 ⟨0,by simp;omega,by simp⟩
 have hb6: -1≤ev.getD 6 0∧ev.getD 6 0≤65535:=by rw[←g1];refine hps _ ?_;simp[List.getD,eG (show 6<ev.length by omega)];exact List.mem_iff_getElem.2 ⟨1,by simp;omega,by simp⟩
 rw[hct]at e4;have ng:Hid (Ch L.own w (w.alloc (.cells (aA ev) 46))):=(Ch.refl _ _).alloc _;have Di:Hid (¬L.own w.heap.size):=fun h=>by have:=ht.pQ h;omega
 have FP:Hid (w.heap.size<(w.alloc (.cells (aA ev) 46)).heap.size):=by show _<_;simp
 have hlt:=ht.lt;have lm:∀t u,cO u L t→t.Inv→_:=fun t u h1 h2=>Rf L t u h1 h2 ev hev hb5 hb6;have le:∀t u,cO u L t→t.Inv→_:=fun t u h1 h2=>Qr L t u h1 h2 ev hev hb5;have la:∀t u,cO u L t→t.Inv→_:=fun t u h1 h2=>Jv L t u h1 h2 ev hev ct hct abZ hps;have hX:s.sequence (ev.getD 2 0) (ev.getD 3 0) (ev.drop 5) ct=if ev.getD 2 0=0 then(((if TS.mZ (ev.getD 3 0)then s.aF else s).move (ev.getD 3 0) (ev.getD 5 0) (ev.getD 6 0)).edit (ev.getD 3 0) (ev.getD 5 0)).kC (ev.getD 3 0) (ev.drop 5) ct
  else if ev.getD 2 0=63 then(if ev.getD 3 0=104∨ev.getD 3 0=108 then s.sets (decide (ev.getD 3 0=104)) ((ev.drop 5).take ct)else s)else s:=by unfold TS.sequence;rw[g0,g1]
 have hns:((ev.drop 5).take ct).length=ct:=by rw[kg,o8];omega
 have hcs:∀u:World,u.heap[w.heap.size]? =some (.cells (aA ev) 46 (0,0))→∀j x,((ev.drop 5).take ct)[j]? =some x→u.cell? ⟨w.heap.size,5+j,none⟩=some (.int .i64 x):=fun u hu j x hx=>by
  rw[mJ]at hx;split at hx
  ·rw[rf]at hx;have:=kD (j:=5+j) hu (gJ.1 hx).1;rw[this];simp[List.getD,hx]
  ·cases hx
 have Wz:Hid _:=hcs;generalize s.sequence (ev.getD 2 0) (ev.getD 3 0) (ev.drop 5) ct=X at*;have HI:Hid s.Inv:=hi;have HT:Hid _:=HT0;have hst:=Q3 (ev.getD 3 0) hf;have lx:∀u,_:=fun u=>Nl (ev.getD 3 0) hf u;have c28:=ht.c 28 _ rfl;have f28:=ht.f 28;have vu:IntKind.u8.wrap (ev.getD 3 0)=ev.getD 3 0:=by rw[IntKind.wrap_u8];omega
 clear ht hi HT0 g0 g1 hcs hct hb5 hb6 hps;generalize ev.getD 2 0=mk at*;generalize ev.getD 3 0=f at*;generalize ev.getD 5 0=p0 at*;generalize ev.getD 6 0=p1 at*;generalize ev.drop 5=ps at*;by_cases hm:mk=0
 ·subst hm;rw[ak rfl]at hX;cases hs:TS.mZ f with
  |true=>
   rw[hs]at hX hst;rw[ak rfl]at hX;have hq:0≤fH f:=pV hst;generalize fH f=r at*;have HX:Hid _:=hX;have HTB:Hid (cO ((w.setCell ⟨L.tb,28,none⟩ (.bool false)).alloc (.cells (aA ev) 46)) L s.aF):=(HTW.o.set (s':=s.aF) 28 (.bool false) rfl rfl rfl rfl rfl).sm ((Ch.refl _ _).alloc _);have Zp:Hid (Ch L.own w ((w.setCell ⟨L.tb,28,none⟩ (.bool false)).alloc (.cells (aA ev) 46))):=((Ch.refl _ _).nJ _ _).alloc _;have WN:Hid s.aF.Inv:=HI.o.aF;have F8:Hid (((w.setCell ⟨L.tb,28,none⟩ (.bool false)).alloc (.cells (aA ev) 46)).heap[w.heap.size]? =some (.cells (aA ev) 46 (0,0))):=by have:=bV (w.setCell ⟨L.tb,28,none⟩ (.bool false)) (.cells (aA ev) 46);rwa[show(w.setCell ⟨L.tb,28,none⟩ (.bool false)).heap.size=w.heap.size by simp[World.setCell]]at this
   have ZY:Hid (w.heap.size<((w.setCell ⟨L.tb,28,none⟩ (.bool false)).alloc (.cells (aA ev) 46)).heap.size):=aK F8.o;clear hX hst hs HT ng Em;go_enter func58,ntmps58;go_wp2_with (first|(go_at_call 110;refine(lx _).mono ?_;rintro e w0 ⟨rfl,hw1⟩;have hw2:=hw1.symm;subst hw2)|(go_at_call 111;refine(lm s.aF _ HTB.o WN.o).mono ?_;rintro e w1 ⟨rfl,h1,c1⟩;have he1:=(c1.block w.heap.size ZY.o Di.o).trans F8.o)|(go_at_call 112;refine(le _ _ h1 (WN.o.move _ _ _)).mono ?_;rintro e w2 ⟨rfl,h2,c2⟩;have he2:=(c2.block w.heap.size (fJ ZY.o c1.size) Di.o).trans he1)|(go_at_call 113;refine(la _ _ h2 ((WN.o.move _ _ _).edit _ _)).mono ?_;rintro e w3 ⟨rfl,h3,c3⟩)|(refine fA _ rfl (.tmp 3) rfl w.heap.size ev rfl hev 46 (0,0) he2 ?_)|(refine fA _ rfl (.tmp 3) rfl w.heap.size ev rfl hev 46 (0,0) he1 ?_)|(refine fA _ rfl (.tmp 3) rfl w.heap.size ev rfl hev 46 (0,0) F8.o ?_));go_end0;exact⟨rfl,by rw[HX.o];exact h3,Zp.o.trans (c1.trans (c2.trans c3))⟩
  |false=>rw[hs]at hX hst;rw[ai (by simp)]at hX;have hq:¬0≤fH f:=of_decide_eq_false hst;have dq:decide (0≤fH f)=false:=hst;generalize fH f=r at*;have HX:Hid _:=hX;have HTB:Hid (cO (w.alloc (.cells (aA ev) 46)) L s):=HT.o;have Zp:Hid (Ch L.own w (w.alloc (.cells (aA ev) 46))):=ng.o;have WN:Hid s.Inv:=HI.o;have F8:Hid ((w.alloc (.cells (aA ev) 46)).heap[w.heap.size]? =some (.cells (aA ev) 46 (0,0))):=Em.o;have ZY:Hid (w.heap.size<(w.alloc (.cells (aA ev) 46)).heap.size):=FP.o;clear hX hst hs HT ng Em;go_enter func58,ntmps58;go_wp2_with (first|(go_at_call 110;refine(lx _).mono ?_;rintro e w0 ⟨rfl,hw1⟩;have hw2:=hw1.symm;subst hw2)|(go_at_call 111;refine(lm s _ HTB.o WN.o).mono ?_;rintro e w1 ⟨rfl,h1,c1⟩;have he1:=(c1.block w.heap.size ZY.o Di.o).trans F8.o)|(go_at_call 112;refine(le _ _ h1 (WN.o.move _ _ _)).mono ?_;rintro e w2 ⟨rfl,h2,c2⟩;have he2:=(c2.block w.heap.size (fJ ZY.o c1.size) Di.o).trans he1)|(go_at_call 113;refine(la _ _ h2 ((WN.o.move _ _ _).edit _ _)).mono ?_;rintro e w3 ⟨rfl,h3,c3⟩)|(refine fA _ rfl (.tmp 3) rfl w.heap.size ev rfl hev 46 (0,0) he2 ?_)|(refine fA _ rfl (.tmp 3) rfl w.heap.size ev rfl hev 46 (0,0) he1 ?_)|(refine fA _ rfl (.tmp 3) rfl w.heap.size ev rfl hev 46 (0,0) F8.o ?_));go_end0;exact⟨rfl,by rw[HX.o];exact h3,Zp.o.trans (c1.trans (c2.trans c3))⟩
 ·rw[ai hm]at hX;have b0:(mk==0)=false:=by simp[hm]
  by_cases hm2:mk=63
  ·rw[ak hm2]at hX;have b1:(mk==63)=true:=by simp[hm2]
   rcases(show f=104∨f=108∨¬(f=104∨f=108) by omega)with rfl|rfl|hq
   ·rw[ak (by omega)]at hX;have HX:Hid _:=hX;have WA:=Wz.o _ Em.o;have i1:(ct:Int)≤16:=by omega
    clear hX hm hm2;go_enter func58,ntmps58;go_wp2_with fail;generalize hW:w.alloc (Obj.cells (aA ev) 46)=W at*;generalize hlb:w.heap.size=lb at*;have HT1:cO ({W with drawn:=W.drawn+1}:World) L s:=HT.o.sm ((Ch.refl _ _).drewN 1);have l1:=Mi L s ({W with drawn:=W.drawn+1}:World) HT1 HI.o true lb 5 16 (ps.take ct) (by omega) WA Di.o FP.o;rw[hns]at l1;have HH:World.cell? ({W with drawn:=W.drawn+1}:World) ⟨lb,4,none⟩=some (.int .i64 (ct:Int))∧World.cell? ({W with drawn:=W.drawn+1}:World) ⟨lb,3,none⟩=some (.int .i64 104):=⟨e4,e3⟩;refine dX (S:=fun x=>x.cell? ⟨lb,4,none⟩=some (.int .i64 (ct:Int))∧x.cell? ⟨lb,3,none⟩=some (.int .i64 104)) aX ?_;refine ay 0 1 2 3 HH ?_;simp only[ag,af];refine aj 4 HH ?_ (v:=.slice (some ⟨lb,5,none⟩) ct 16);refine dW 5 6 HH ?_;refine aj 7 HH ?_ (v:=.bool true);simp only[ag,af];refine av 8 ?_;refine a_ (vs:=[.pointer (some ⟨L.tb,0,none⟩),.slice (some ⟨lb,5,none⟩) ct 16,.bool true]) (R:=fun v w'=>v= .tuple #[]∧cO w' L X∧Ch L.own W w') (l1.mono fun e w' h=>⟨_,h.1,rfl,by rw[HX.o];exact h.2.1,⟨h.2.2.os,h.2.2.tape,h.2.2.output,h.2.2.size,h.2.2.block⟩⟩) ?_;rintro v2 w9 ⟨rfl,t9,c9⟩;refine⟨⟨(dA (c9.block lb FP.o Di.o)).trans e4,(dA (c9.block lb FP.o Di.o)).trans e3⟩,?_⟩;simp only[ag,af];refine aC ?_;have HF:Hid (cO w9 L X∧Ch L.own w w9):=⟨t9,ng.o.trans c9⟩;clear t9 c9 HT1 HH l1;go_wp2_with fail;go_end0;exact⟨rfl,HF.o.1,HF.o.2⟩
   ·rw[ak (by omega)]at hX;have HX:Hid _:=hX;have WA:=Wz.o _ Em.o;have i1:(ct:Int)≤16:=by omega
    clear hX hm hm2;go_enter func58,ntmps58;go_wp2_with fail;generalize hW:w.alloc (Obj.cells (aA ev) 46)=W at*;generalize hlb:w.heap.size=lb at*;have HT1:cO ({W with drawn:=W.drawn+1}:World) L s:=HT.o.sm ((Ch.refl _ _).drewN 1);have l1:=Mi L s ({W with drawn:=W.drawn+1}:World) HT1 HI.o false lb 5 16 (ps.take ct) (by omega) WA Di.o FP.o;rw[hns]at l1;have HH:World.cell? ({W with drawn:=W.drawn+1}:World) ⟨lb,4,none⟩=some (.int .i64 (ct:Int))∧World.cell? ({W with drawn:=W.drawn+1}:World) ⟨lb,3,none⟩=some (.int .i64 108):=⟨e4,e3⟩;refine dX (S:=fun x=>x.cell? ⟨lb,4,none⟩=some (.int .i64 (ct:Int))∧x.cell? ⟨lb,3,none⟩=some (.int .i64 108)) aX ?_;refine ay 0 1 2 3 HH ?_;simp only[ag,af];refine aj 4 HH ?_ (v:=.slice (some ⟨lb,5,none⟩) ct 16);refine dW 5 6 HH ?_;refine aj 7 HH ?_ (v:=.bool false);simp only[ag,af];refine av 8 ?_;refine a_ (vs:=[.pointer (some ⟨L.tb,0,none⟩),.slice (some ⟨lb,5,none⟩) ct 16,.bool false]) (R:=fun v w'=>v= .tuple #[]∧cO w' L X∧Ch L.own W w') (l1.mono fun e w' h=>⟨_,h.1,rfl,by rw[HX.o];exact h.2.1,⟨h.2.2.os,h.2.2.tape,h.2.2.output,h.2.2.size,h.2.2.block⟩⟩) ?_;rintro v2 w9 ⟨rfl,t9,c9⟩;refine⟨⟨(dA (c9.block lb FP.o Di.o)).trans e4,(dA (c9.block lb FP.o Di.o)).trans e3⟩,?_⟩;simp only[ag,af];refine aC ?_;have HF:Hid (cO w9 L X∧Ch L.own w w9):=⟨t9,ng.o.trans c9⟩;clear t9 c9 HT1 HH l1;go_wp2_with fail;go_end0;exact⟨rfl,HF.o.1,HF.o.2⟩
   ·rw[ai hq]at hX;have HX:Hid _:=hX;have b2:(f==104)=false:=by simp;omega
    have b3:(f==108)=false:=by simp;omega
    clear hX hq hm hm2;go_enter func58,ntmps58;go_wp2_with fail;go_end0;exact⟨rfl,by rw[HX.o];exact HT.o,ng.o⟩
  ·rw[ai hm2]at hX;have b1:(mk==63)=false:=by simp[hm2]
   have HX:Hid _:=hX;clear hX hm hm2;go_enter func58,ntmps58;go_wp2_with fail;go_end0;exact⟨rfl,by rw[HX.o];exact HT.o,ng.o⟩
def TS.take (s:TS) (ev:List Int):TS:=
 if ev.getD 0 0=1 then s.print (ev.getD 1 0) (j_ (ev.getD 1 0)).toNat else if ev.getD 0 0=2 then s.control (ev.getD 1 0)
 else if ev.getD 0 0=3 then s.escape (ev.getD 2 0) (ev.getD 3 0)else if ev.getD 0 0=4 then s.sequence (ev.getD 2 0) (ev.getD 3 0) (ev.drop 5) (ev.getD 4 0).toNat else s
structure I_ (ev:List Int):Prop where
 len:ev.length=21
 ct:0≤ev.getD 4 0∧ev.getD 4 0≤16
 ps:∀x∈ev.drop 5,-1≤x∧x≤65535
 fin:ev.getD 0 0=4→64≤ev.getD 3 0∧ev.getD 3 0≤126
theorem uk(c:Int):0≤j_ c∧j_ c≤2:=by
 unfold j_;have h:∀l:List (Int × Int × Int),(∀x∈l,0≤x.2.2∧x.2.2≤2)→0≤oK c l∧oK c l≤2:=by
  intro l;induction l with
  |nil=>intro _;simp[oK]
  |cons x l ih=>
   intro hx;obtain⟨a,b,y⟩:=x;simp only[oK];split
   ·exact hx (a,b,y) (by simp)
   ·exact ih fun z hz=>hx z (by simp[hz])
 refine h xL ?_;intro x hx;simp only[xL,kK,pX,pY]at hx;rcases hx with rfl|rfl|rfl|rfl|rfl|rfl|rfl|rfl|rfl|rfl|rfl|rfl|rfl|rfl<;>exact⟨by decide,by decide⟩
theorem TS.Inv.oV{s:TS}(h:s.Inv):s.oV.Inv:=h.bQ _
theorem TS.Inv.step{s:TS}(h:s.Inv)(wd:Nat):(s.step wd).Inv:=by have:=h.bQ (s.col+(wd:Int));exact this.upd rfl rfl rfl rfl rfl rfl rfl this.row0 this.jK this.jA this.jD this.iO this.tb this.bot this.sh
theorem TS.Inv.fo{s:TS}(h:s.Inv)(c:Int)(wd:Nat):(s.fo c wd).Inv:=by
 unfold TS.fo;split
 ·exact TS.Inv.step (TS.Inv.aN (h.aN _) _) _
 ·exact TS.Inv.step (h.aN _) _
theorem TS.Inv.gH{s:TS}(h:s.Inv):s.gH.Inv:=by
 unfold TS.gH;split
 ·exact h.aF.bE
 ·exact h
theorem TS.Inv.print{s:TS}(h:s.Inv)(c:Int)(wd:Nat):(s.print c wd).Inv:=by
 unfold TS.print
 repeat' split
 ·exact h
 ·exact h.gH.bE.fo _ _
 ·exact h.gH
 ·exact h.gH.fo _ _
theorem TS.Inv.use{s:TS}(h:s.Inv)(u:Int):({s with use:=u}:TS).Inv:=h.upd rfl rfl rfl rfl rfl rfl rfl h.row0 h.jK h.jA h.jD h.iO h.tb h.bot h.sh
theorem TS.Inv.control{s:TS}(h:s.Inv)(c:Int):(s.control c).Inv:=by
 have h1:(if 8≤c∧c≤13 then s.aF else s).Inv:=by
  split
  ·exact h.aF
  ·exact h
 unfold TS.control;dsimp only;generalize (if 8≤c∧c≤13 then s.aF else s)=t at*
 repeat' split
 ·exact h1.bQ _
 ·exact h1.oV
 ·exact h1.down
 ·exact h1.bQ _
 ·exact h1.use 1
 ·exact h1.use 0
 ·exact h1
theorem TS.Inv.save{s:TS}(h:s.Inv):s.save.Inv:=by
 unfold TS.save;split
 ·exact⟨h.r1,h.r2,h.c1,h.c2,h.row0,h.jK,h.jA,h.jD,h.iO,h.tb,h.bot,h.sh,h.l0,h.l1,h.lt,⟨h.row0,h.jK⟩,⟨h.jA,h.jD⟩,h.Y6,h.Y5⟩
 ·exact⟨h.r1,h.r2,h.c1,h.c2,h.row0,h.jK,h.jA,h.jD,h.iO,h.tb,h.bot,h.sh,h.l0,h.l1,h.lt,h.Y4,h.Y3,⟨h.row0,h.jK⟩,⟨h.jA,h.jD⟩⟩
theorem TS.Inv.restore{s:TS}(h:s.Inv):s.restore.Inv:=by
 have hv:(0≤s.saved.row∧s.saved.row<(s.rows:Int))∧(0≤s.saved.col∧s.saved.col<(s.ah:Int)):=by
  unfold TS.saved;split
  ·exact⟨h.Y4,h.Y3⟩
  ·exact⟨h.Y6,h.Y5⟩
 have hr:0≤(if s.saved.origin then TS.bg s.saved.row s.top s.bottom else s.saved.row)∧(if s.saved.origin then TS.bg s.saved.row s.top s.bottom else s.saved.row)<(s.rows:Int):=by
  have:=h.iO;have:=h.tb;have:=h.bot;split
  ·unfold TS.bg;omega
  ·exact hv.1
 exact h.upd rfl rfl rfl rfl rfl rfl rfl hr.1 hr.2 hv.2.1 hv.2.2 h.iO h.tb h.bot h.sh
theorem TS.Inv.bare{s:TS}(h:s.Inv)(f:Int):(s.bare f).Inv:=by
 unfold TS.bare
 repeat' split
 ·exact h.save
 ·exact h.restore
 ·exact h.aF.down
 ·exact h.aF.up
 ·exact h.aF.bE
 ·exact h.Fv _ (by rw[lG];exact h.lt)
 ·exact TS.Inv.fresh ⟨h.r1,h.r2⟩ ⟨h.c1,h.c2⟩
 ·exact h
theorem TS.Inv.escape{s:TS}(h:s.Inv)(mk f:Int):(s.escape mk f).Inv:=by
 unfold TS.escape
 repeat' split
 ·exact h.bare f
 ·exact h.upd rfl rfl rfl rfl rfl rfl rfl h.row0 h.jK h.jA h.jD h.iO h.tb h.bot h.sh
 ·exact h.upd rfl rfl rfl rfl rfl rfl rfl h.row0 h.jK h.jA h.jD h.iO h.tb h.bot h.sh
 ·exact h
theorem TS.Inv.take{s:TS}(h:s.Inv)(ev:List Int):(s.take ev).Inv:=by
 unfold TS.take
 repeat' split
 ·exact h.print _ _
 ·exact h.control _
 ·exact h.escape _ _
 ·exact h.sequence _ _ _ _
 ·exact h
structure zm (w:World):Prop where
 sp:A9 w
 le:qb w
 st:mE w
theorem zm.kept{w w':World}(h:zm w)(hb:∀k,k≤2→w'.heap[k]? =w.heap[k]?):zm w':=⟨h.sp.kept (hb 1 (by omega)),h.le.kept (hb 0 (by omega)),h.st.kept (hb 2 (by omega))⟩
theorem zm.ch{w w':World}(h:zm w){P:Nat→Prop}(c:Ch P w w')(hp:∀k,k≤2→¬P k):zm w':=by obtain⟨t,fr,h2⟩:=h.st;have hs:2<w.heap.size:=aK h2;exact h.kept fun k hk=>c.block k (by omega) (hp k hk)
theorem Ei(L:Lay)(s:TS)(w:World)(ht:cO w L s)(hi:s.Inv)(hL:L.Hi)(htb:zm w)(ev:List Int)(hev:I_ ev):Calls prog 27 #[.pointer (some ⟨L.tb,0,none⟩),.agg (aA ev)] w fun e w'=>e= .returned (.tuple #[])∧Next L w w' (s.take ev):=by
 have HT:=ht.sm ((Ch.refl (fun _=>False) w).alloc (.cells (aA ev) 46));have Em:Hid ((w.alloc (.cells (aA ev) 46)).heap[w.heap.size]? =some (.cells (aA ev) 46 (0,0))):=bV _ _;have hl:=hev.len;have e0:=kD (j:=0) Em.o (by omega);have e1:=kD (j:=1) Em.o (by omega);have ng:Hid (Ch L.own w (w.alloc (.cells (aA ev) 46))):=(Ch.refl _ _).alloc _;have htw:=htb.ch ((Ch.refl (fun _=>False) w).alloc (.cells (aA ev) 46)) (fun _ _ h=>h);have hX:s.take ev=if ev.getD 0 0=1 then s.print (ev.getD 1 0) (j_ (ev.getD 1 0)).toNat else if ev.getD 0 0=2 then s.control (ev.getD 1 0)
  else if ev.getD 0 0=3 then s.escape (ev.getD 2 0) (ev.getD 3 0)else if ev.getD 0 0=4 then s.sequence (ev.getD 2 0) (ev.getD 3 0) (ev.drop 5) (ev.getD 4 0).toNat else s:=rfl
 have hw:=uk (ev.getD 1 0);have l1:=NC L s _ HT hi hL htw.sp htw.st (ev.getD 1 0) (j_ (ev.getD 1 0)).toNat (by omega) (by omega);have l2:=Gt L s _ HT hi (ev.getD 1 0);have l3:=JM L s _ HT hi ev hl;have l4:ev.getD 0 0=4→_:=fun h4=>Fq L s _ HT hi ev hl (ev.getD 4 0).toNat (by have:=hev.ct;omega) (by have:=hev.ct;omega) hev.ps (hev.fin h4);generalize s.take ev=X at*;have HHT:Hid _:=HT;clear ht hi hL htb htw hev HT;generalize ev.getD 0 0=kd at*;generalize ev.getD 1 0=ru at*;rcases(show kd=1∨kd=2∨kd=3∨kd=4∨¬(kd=1∨kd=2∨kd=3∨kd=4) by omega)with rfl|rfl|rfl|rfl|hk
 ·have HX:Hid _:=hX;clear hX l2 l3 l4;go_enter func27,ntmps27;go_wp2_with (go_at_call 55;refine l1.mono ?_;rintro e w1 ⟨rfl,h1,c1⟩);go_end0;exact⟨rfl,Next.ahead ng.o (Next.of (by rw[HX.o];exact h1) c1)⟩
 ·have HX:Hid _:=hX;clear hX l1 l3 l4;go_enter func27,ntmps27;go_wp2_with (go_at_call 56;refine l2.mono ?_;rintro e w1 ⟨rfl,h1,c1⟩);go_end0;exact⟨rfl,Next.ahead ng.o (Next.of (by rw[HX.o];exact h1) c1)⟩
 ·have HX:Hid _:=hX;clear hX l1 l2 l4;go_enter func27,ntmps27;go_wp2_with (first|(go_at_call 57;refine l3.mono ?_;rintro e w1 ⟨rfl,n1⟩)|(refine fA _ rfl (.tmp 3) rfl w.heap.size ev rfl hl 46 (0,0) Em.o ?_));go_end0;exact⟨rfl,Next.ahead ng.o (by rw[HX.o];exact n1)⟩
 ·have HX:Hid _:=hX;have l5:=l4 rfl;clear hX l1 l2 l3 l4;go_enter func27,ntmps27;go_wp2_with (first|(go_at_call 58;refine l5.mono ?_;rintro e w1 ⟨rfl,h1,c1⟩)|(refine fA _ rfl (.tmp 3) rfl w.heap.size ev rfl hl 46 (0,0) Em.o ?_));go_end0;exact⟨rfl,Next.ahead ng.o (Next.of (by rw[HX.o];exact h1) c1)⟩
 ·rw[ai (by omega),ai (by omega),ai (by omega),ai (by omega)]at hX;have HX:Hid _:=hX;have b1:(kd==1)=false:=by simp;omega
  have b2:(kd==2)=false:=by simp;omega
  have b3:(kd==3)=false:=by simp;omega
  have b4:(kd==4)=false:=by simp;omega
  clear hX hk l1 l2 l3 l4;go_enter func27,ntmps27;go_wp2_with fail;go_end0;exact⟨rfl,Next.ahead ng.o (Next.of (by rw[HX.o];exact HHT.o) (Ch.refl _ _))⟩
end Go.Proofs.YtheibfffilomcaaGreatDoor
