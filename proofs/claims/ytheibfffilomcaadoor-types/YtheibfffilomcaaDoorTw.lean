/- The walk of strings.IndexByte at the text of the finals. -/
import Derived.Test.YtheibfffilomcaaDoorTvM
namespace Go.Proofs.YtheibfffilomcaaDoor
open Go.RowKit

def ixOf (c : Int) : Int := if c = 65 then 0 else if c = 66 then 1 else if c = 67 then 2 else if c = 68 then 3 else if c = 71 then 4 else if c = 100 then 5 else if c = 72 then 6 else if c = 102 then 7 else if c = 64 then 8 else if c = 80 then 9 else if c = 88 then 10 else if c = 76 then 11 else if c = 77 then 12 else -1
theorem ext64 (w : World) : (callFunc 131 #[.string ⟨#[65, 66, 67, 68, 71, 100, 72, 102, 64, 80, 88, 76, 77]⟩, .int .u8 64]).run Tryd.prog w = .ok (.value (.int .i64 (ixOf 64))) w := by kernel_rfl
theorem ext65 (w : World) : (callFunc 131 #[.string ⟨#[65, 66, 67, 68, 71, 100, 72, 102, 64, 80, 88, 76, 77]⟩, .int .u8 65]).run Tryd.prog w = .ok (.value (.int .i64 (ixOf 65))) w := by kernel_rfl
theorem ext66 (w : World) : (callFunc 131 #[.string ⟨#[65, 66, 67, 68, 71, 100, 72, 102, 64, 80, 88, 76, 77]⟩, .int .u8 66]).run Tryd.prog w = .ok (.value (.int .i64 (ixOf 66))) w := by kernel_rfl
theorem ext67 (w : World) : (callFunc 131 #[.string ⟨#[65, 66, 67, 68, 71, 100, 72, 102, 64, 80, 88, 76, 77]⟩, .int .u8 67]).run Tryd.prog w = .ok (.value (.int .i64 (ixOf 67))) w := by kernel_rfl
theorem ext68 (w : World) : (callFunc 131 #[.string ⟨#[65, 66, 67, 68, 71, 100, 72, 102, 64, 80, 88, 76, 77]⟩, .int .u8 68]).run Tryd.prog w = .ok (.value (.int .i64 (ixOf 68))) w := by kernel_rfl
theorem ext69 (w : World) : (callFunc 131 #[.string ⟨#[65, 66, 67, 68, 71, 100, 72, 102, 64, 80, 88, 76, 77]⟩, .int .u8 69]).run Tryd.prog w = .ok (.value (.int .i64 (ixOf 69))) w := by kernel_rfl
theorem ext70 (w : World) : (callFunc 131 #[.string ⟨#[65, 66, 67, 68, 71, 100, 72, 102, 64, 80, 88, 76, 77]⟩, .int .u8 70]).run Tryd.prog w = .ok (.value (.int .i64 (ixOf 70))) w := by kernel_rfl
theorem ext71 (w : World) : (callFunc 131 #[.string ⟨#[65, 66, 67, 68, 71, 100, 72, 102, 64, 80, 88, 76, 77]⟩, .int .u8 71]).run Tryd.prog w = .ok (.value (.int .i64 (ixOf 71))) w := by kernel_rfl
theorem ext72 (w : World) : (callFunc 131 #[.string ⟨#[65, 66, 67, 68, 71, 100, 72, 102, 64, 80, 88, 76, 77]⟩, .int .u8 72]).run Tryd.prog w = .ok (.value (.int .i64 (ixOf 72))) w := by kernel_rfl
theorem ext73 (w : World) : (callFunc 131 #[.string ⟨#[65, 66, 67, 68, 71, 100, 72, 102, 64, 80, 88, 76, 77]⟩, .int .u8 73]).run Tryd.prog w = .ok (.value (.int .i64 (ixOf 73))) w := by kernel_rfl
theorem ext74 (w : World) : (callFunc 131 #[.string ⟨#[65, 66, 67, 68, 71, 100, 72, 102, 64, 80, 88, 76, 77]⟩, .int .u8 74]).run Tryd.prog w = .ok (.value (.int .i64 (ixOf 74))) w := by kernel_rfl
theorem ext75 (w : World) : (callFunc 131 #[.string ⟨#[65, 66, 67, 68, 71, 100, 72, 102, 64, 80, 88, 76, 77]⟩, .int .u8 75]).run Tryd.prog w = .ok (.value (.int .i64 (ixOf 75))) w := by kernel_rfl
theorem ext76 (w : World) : (callFunc 131 #[.string ⟨#[65, 66, 67, 68, 71, 100, 72, 102, 64, 80, 88, 76, 77]⟩, .int .u8 76]).run Tryd.prog w = .ok (.value (.int .i64 (ixOf 76))) w := by kernel_rfl
theorem ext77 (w : World) : (callFunc 131 #[.string ⟨#[65, 66, 67, 68, 71, 100, 72, 102, 64, 80, 88, 76, 77]⟩, .int .u8 77]).run Tryd.prog w = .ok (.value (.int .i64 (ixOf 77))) w := by kernel_rfl
theorem ext78 (w : World) : (callFunc 131 #[.string ⟨#[65, 66, 67, 68, 71, 100, 72, 102, 64, 80, 88, 76, 77]⟩, .int .u8 78]).run Tryd.prog w = .ok (.value (.int .i64 (ixOf 78))) w := by kernel_rfl
theorem ext79 (w : World) : (callFunc 131 #[.string ⟨#[65, 66, 67, 68, 71, 100, 72, 102, 64, 80, 88, 76, 77]⟩, .int .u8 79]).run Tryd.prog w = .ok (.value (.int .i64 (ixOf 79))) w := by kernel_rfl
theorem ext80 (w : World) : (callFunc 131 #[.string ⟨#[65, 66, 67, 68, 71, 100, 72, 102, 64, 80, 88, 76, 77]⟩, .int .u8 80]).run Tryd.prog w = .ok (.value (.int .i64 (ixOf 80))) w := by kernel_rfl
theorem ext81 (w : World) : (callFunc 131 #[.string ⟨#[65, 66, 67, 68, 71, 100, 72, 102, 64, 80, 88, 76, 77]⟩, .int .u8 81]).run Tryd.prog w = .ok (.value (.int .i64 (ixOf 81))) w := by kernel_rfl
theorem ext82 (w : World) : (callFunc 131 #[.string ⟨#[65, 66, 67, 68, 71, 100, 72, 102, 64, 80, 88, 76, 77]⟩, .int .u8 82]).run Tryd.prog w = .ok (.value (.int .i64 (ixOf 82))) w := by kernel_rfl
theorem ext83 (w : World) : (callFunc 131 #[.string ⟨#[65, 66, 67, 68, 71, 100, 72, 102, 64, 80, 88, 76, 77]⟩, .int .u8 83]).run Tryd.prog w = .ok (.value (.int .i64 (ixOf 83))) w := by kernel_rfl
theorem ext84 (w : World) : (callFunc 131 #[.string ⟨#[65, 66, 67, 68, 71, 100, 72, 102, 64, 80, 88, 76, 77]⟩, .int .u8 84]).run Tryd.prog w = .ok (.value (.int .i64 (ixOf 84))) w := by kernel_rfl
theorem ext85 (w : World) : (callFunc 131 #[.string ⟨#[65, 66, 67, 68, 71, 100, 72, 102, 64, 80, 88, 76, 77]⟩, .int .u8 85]).run Tryd.prog w = .ok (.value (.int .i64 (ixOf 85))) w := by kernel_rfl
theorem ext86 (w : World) : (callFunc 131 #[.string ⟨#[65, 66, 67, 68, 71, 100, 72, 102, 64, 80, 88, 76, 77]⟩, .int .u8 86]).run Tryd.prog w = .ok (.value (.int .i64 (ixOf 86))) w := by kernel_rfl
theorem ext87 (w : World) : (callFunc 131 #[.string ⟨#[65, 66, 67, 68, 71, 100, 72, 102, 64, 80, 88, 76, 77]⟩, .int .u8 87]).run Tryd.prog w = .ok (.value (.int .i64 (ixOf 87))) w := by kernel_rfl
theorem ext88 (w : World) : (callFunc 131 #[.string ⟨#[65, 66, 67, 68, 71, 100, 72, 102, 64, 80, 88, 76, 77]⟩, .int .u8 88]).run Tryd.prog w = .ok (.value (.int .i64 (ixOf 88))) w := by kernel_rfl
theorem ext89 (w : World) : (callFunc 131 #[.string ⟨#[65, 66, 67, 68, 71, 100, 72, 102, 64, 80, 88, 76, 77]⟩, .int .u8 89]).run Tryd.prog w = .ok (.value (.int .i64 (ixOf 89))) w := by kernel_rfl
theorem ext90 (w : World) : (callFunc 131 #[.string ⟨#[65, 66, 67, 68, 71, 100, 72, 102, 64, 80, 88, 76, 77]⟩, .int .u8 90]).run Tryd.prog w = .ok (.value (.int .i64 (ixOf 90))) w := by kernel_rfl
theorem ext91 (w : World) : (callFunc 131 #[.string ⟨#[65, 66, 67, 68, 71, 100, 72, 102, 64, 80, 88, 76, 77]⟩, .int .u8 91]).run Tryd.prog w = .ok (.value (.int .i64 (ixOf 91))) w := by kernel_rfl
theorem ext92 (w : World) : (callFunc 131 #[.string ⟨#[65, 66, 67, 68, 71, 100, 72, 102, 64, 80, 88, 76, 77]⟩, .int .u8 92]).run Tryd.prog w = .ok (.value (.int .i64 (ixOf 92))) w := by kernel_rfl
theorem ext93 (w : World) : (callFunc 131 #[.string ⟨#[65, 66, 67, 68, 71, 100, 72, 102, 64, 80, 88, 76, 77]⟩, .int .u8 93]).run Tryd.prog w = .ok (.value (.int .i64 (ixOf 93))) w := by kernel_rfl
theorem ext94 (w : World) : (callFunc 131 #[.string ⟨#[65, 66, 67, 68, 71, 100, 72, 102, 64, 80, 88, 76, 77]⟩, .int .u8 94]).run Tryd.prog w = .ok (.value (.int .i64 (ixOf 94))) w := by kernel_rfl
theorem ext95 (w : World) : (callFunc 131 #[.string ⟨#[65, 66, 67, 68, 71, 100, 72, 102, 64, 80, 88, 76, 77]⟩, .int .u8 95]).run Tryd.prog w = .ok (.value (.int .i64 (ixOf 95))) w := by kernel_rfl
theorem ext96 (w : World) : (callFunc 131 #[.string ⟨#[65, 66, 67, 68, 71, 100, 72, 102, 64, 80, 88, 76, 77]⟩, .int .u8 96]).run Tryd.prog w = .ok (.value (.int .i64 (ixOf 96))) w := by kernel_rfl
theorem ext97 (w : World) : (callFunc 131 #[.string ⟨#[65, 66, 67, 68, 71, 100, 72, 102, 64, 80, 88, 76, 77]⟩, .int .u8 97]).run Tryd.prog w = .ok (.value (.int .i64 (ixOf 97))) w := by kernel_rfl
theorem ext98 (w : World) : (callFunc 131 #[.string ⟨#[65, 66, 67, 68, 71, 100, 72, 102, 64, 80, 88, 76, 77]⟩, .int .u8 98]).run Tryd.prog w = .ok (.value (.int .i64 (ixOf 98))) w := by kernel_rfl
theorem ext99 (w : World) : (callFunc 131 #[.string ⟨#[65, 66, 67, 68, 71, 100, 72, 102, 64, 80, 88, 76, 77]⟩, .int .u8 99]).run Tryd.prog w = .ok (.value (.int .i64 (ixOf 99))) w := by kernel_rfl
theorem ext100 (w : World) : (callFunc 131 #[.string ⟨#[65, 66, 67, 68, 71, 100, 72, 102, 64, 80, 88, 76, 77]⟩, .int .u8 100]).run Tryd.prog w = .ok (.value (.int .i64 (ixOf 100))) w := by kernel_rfl
theorem ext101 (w : World) : (callFunc 131 #[.string ⟨#[65, 66, 67, 68, 71, 100, 72, 102, 64, 80, 88, 76, 77]⟩, .int .u8 101]).run Tryd.prog w = .ok (.value (.int .i64 (ixOf 101))) w := by kernel_rfl
theorem ext102 (w : World) : (callFunc 131 #[.string ⟨#[65, 66, 67, 68, 71, 100, 72, 102, 64, 80, 88, 76, 77]⟩, .int .u8 102]).run Tryd.prog w = .ok (.value (.int .i64 (ixOf 102))) w := by kernel_rfl
theorem ext103 (w : World) : (callFunc 131 #[.string ⟨#[65, 66, 67, 68, 71, 100, 72, 102, 64, 80, 88, 76, 77]⟩, .int .u8 103]).run Tryd.prog w = .ok (.value (.int .i64 (ixOf 103))) w := by kernel_rfl
theorem ext104 (w : World) : (callFunc 131 #[.string ⟨#[65, 66, 67, 68, 71, 100, 72, 102, 64, 80, 88, 76, 77]⟩, .int .u8 104]).run Tryd.prog w = .ok (.value (.int .i64 (ixOf 104))) w := by kernel_rfl
theorem ext105 (w : World) : (callFunc 131 #[.string ⟨#[65, 66, 67, 68, 71, 100, 72, 102, 64, 80, 88, 76, 77]⟩, .int .u8 105]).run Tryd.prog w = .ok (.value (.int .i64 (ixOf 105))) w := by kernel_rfl
theorem ext106 (w : World) : (callFunc 131 #[.string ⟨#[65, 66, 67, 68, 71, 100, 72, 102, 64, 80, 88, 76, 77]⟩, .int .u8 106]).run Tryd.prog w = .ok (.value (.int .i64 (ixOf 106))) w := by kernel_rfl
theorem ext107 (w : World) : (callFunc 131 #[.string ⟨#[65, 66, 67, 68, 71, 100, 72, 102, 64, 80, 88, 76, 77]⟩, .int .u8 107]).run Tryd.prog w = .ok (.value (.int .i64 (ixOf 107))) w := by kernel_rfl
theorem ext108 (w : World) : (callFunc 131 #[.string ⟨#[65, 66, 67, 68, 71, 100, 72, 102, 64, 80, 88, 76, 77]⟩, .int .u8 108]).run Tryd.prog w = .ok (.value (.int .i64 (ixOf 108))) w := by kernel_rfl
theorem ext109 (w : World) : (callFunc 131 #[.string ⟨#[65, 66, 67, 68, 71, 100, 72, 102, 64, 80, 88, 76, 77]⟩, .int .u8 109]).run Tryd.prog w = .ok (.value (.int .i64 (ixOf 109))) w := by kernel_rfl
theorem ext110 (w : World) : (callFunc 131 #[.string ⟨#[65, 66, 67, 68, 71, 100, 72, 102, 64, 80, 88, 76, 77]⟩, .int .u8 110]).run Tryd.prog w = .ok (.value (.int .i64 (ixOf 110))) w := by kernel_rfl
theorem ext111 (w : World) : (callFunc 131 #[.string ⟨#[65, 66, 67, 68, 71, 100, 72, 102, 64, 80, 88, 76, 77]⟩, .int .u8 111]).run Tryd.prog w = .ok (.value (.int .i64 (ixOf 111))) w := by kernel_rfl
theorem ext112 (w : World) : (callFunc 131 #[.string ⟨#[65, 66, 67, 68, 71, 100, 72, 102, 64, 80, 88, 76, 77]⟩, .int .u8 112]).run Tryd.prog w = .ok (.value (.int .i64 (ixOf 112))) w := by kernel_rfl
theorem ext113 (w : World) : (callFunc 131 #[.string ⟨#[65, 66, 67, 68, 71, 100, 72, 102, 64, 80, 88, 76, 77]⟩, .int .u8 113]).run Tryd.prog w = .ok (.value (.int .i64 (ixOf 113))) w := by kernel_rfl
theorem ext114 (w : World) : (callFunc 131 #[.string ⟨#[65, 66, 67, 68, 71, 100, 72, 102, 64, 80, 88, 76, 77]⟩, .int .u8 114]).run Tryd.prog w = .ok (.value (.int .i64 (ixOf 114))) w := by kernel_rfl
theorem ext115 (w : World) : (callFunc 131 #[.string ⟨#[65, 66, 67, 68, 71, 100, 72, 102, 64, 80, 88, 76, 77]⟩, .int .u8 115]).run Tryd.prog w = .ok (.value (.int .i64 (ixOf 115))) w := by kernel_rfl
theorem ext116 (w : World) : (callFunc 131 #[.string ⟨#[65, 66, 67, 68, 71, 100, 72, 102, 64, 80, 88, 76, 77]⟩, .int .u8 116]).run Tryd.prog w = .ok (.value (.int .i64 (ixOf 116))) w := by kernel_rfl
theorem ext117 (w : World) : (callFunc 131 #[.string ⟨#[65, 66, 67, 68, 71, 100, 72, 102, 64, 80, 88, 76, 77]⟩, .int .u8 117]).run Tryd.prog w = .ok (.value (.int .i64 (ixOf 117))) w := by kernel_rfl
theorem ext118 (w : World) : (callFunc 131 #[.string ⟨#[65, 66, 67, 68, 71, 100, 72, 102, 64, 80, 88, 76, 77]⟩, .int .u8 118]).run Tryd.prog w = .ok (.value (.int .i64 (ixOf 118))) w := by kernel_rfl
theorem ext119 (w : World) : (callFunc 131 #[.string ⟨#[65, 66, 67, 68, 71, 100, 72, 102, 64, 80, 88, 76, 77]⟩, .int .u8 119]).run Tryd.prog w = .ok (.value (.int .i64 (ixOf 119))) w := by kernel_rfl
theorem ext120 (w : World) : (callFunc 131 #[.string ⟨#[65, 66, 67, 68, 71, 100, 72, 102, 64, 80, 88, 76, 77]⟩, .int .u8 120]).run Tryd.prog w = .ok (.value (.int .i64 (ixOf 120))) w := by kernel_rfl
theorem ext121 (w : World) : (callFunc 131 #[.string ⟨#[65, 66, 67, 68, 71, 100, 72, 102, 64, 80, 88, 76, 77]⟩, .int .u8 121]).run Tryd.prog w = .ok (.value (.int .i64 (ixOf 121))) w := by kernel_rfl
theorem ext122 (w : World) : (callFunc 131 #[.string ⟨#[65, 66, 67, 68, 71, 100, 72, 102, 64, 80, 88, 76, 77]⟩, .int .u8 122]).run Tryd.prog w = .ok (.value (.int .i64 (ixOf 122))) w := by kernel_rfl
theorem ext123 (w : World) : (callFunc 131 #[.string ⟨#[65, 66, 67, 68, 71, 100, 72, 102, 64, 80, 88, 76, 77]⟩, .int .u8 123]).run Tryd.prog w = .ok (.value (.int .i64 (ixOf 123))) w := by kernel_rfl
theorem ext124 (w : World) : (callFunc 131 #[.string ⟨#[65, 66, 67, 68, 71, 100, 72, 102, 64, 80, 88, 76, 77]⟩, .int .u8 124]).run Tryd.prog w = .ok (.value (.int .i64 (ixOf 124))) w := by kernel_rfl
theorem ext125 (w : World) : (callFunc 131 #[.string ⟨#[65, 66, 67, 68, 71, 100, 72, 102, 64, 80, 88, 76, 77]⟩, .int .u8 125]).run Tryd.prog w = .ok (.value (.int .i64 (ixOf 125))) w := by kernel_rfl
theorem ext126 (w : World) : (callFunc 131 #[.string ⟨#[65, 66, 67, 68, 71, 100, 72, 102, 64, 80, 88, 76, 77]⟩, .int .u8 126]).run Tryd.prog w = .ok (.value (.int .i64 (ixOf 126))) w := by kernel_rfl
set_option maxRecDepth 100000 in
theorem ext_all (c : Int) (h : 64 ≤ c ∧ c ≤ 126) (w : World) : (callFunc 131 #[.string ⟨#[65, 66, 67, 68, 71, 100, 72, 102, 64, 80, 88, 76, 77]⟩, .int .u8 c]).run Tryd.prog w = .ok (.value (.int .i64 (ixOf c))) w := by
  rcases (show c = 64 ∨ c = 65 ∨ c = 66 ∨ c = 67 ∨ c = 68 ∨ c = 69 ∨ c = 70 ∨ c = 71 ∨ c = 72 ∨ c = 73 ∨ c = 74 ∨ c = 75 ∨ c = 76 ∨ c = 77 ∨ c = 78 ∨ c = 79 ∨ c = 80 ∨ c = 81 ∨ c = 82 ∨ c = 83 ∨ c = 84 ∨ c = 85 ∨ c = 86 ∨ c = 87 ∨ c = 88 ∨ c = 89 ∨ c = 90 ∨ c = 91 ∨ c = 92 ∨ c = 93 ∨ c = 94 ∨ c = 95 ∨ c = 96 ∨ c = 97 ∨ c = 98 ∨ c = 99 ∨ c = 100 ∨ c = 101 ∨ c = 102 ∨ c = 103 ∨ c = 104 ∨ c = 105 ∨ c = 106 ∨ c = 107 ∨ c = 108 ∨ c = 109 ∨ c = 110 ∨ c = 111 ∨ c = 112 ∨ c = 113 ∨ c = 114 ∨ c = 115 ∨ c = 116 ∨ c = 117 ∨ c = 118 ∨ c = 119 ∨ c = 120 ∨ c = 121 ∨ c = 122 ∨ c = 123 ∨ c = 124 ∨ c = 125 ∨ c = 126 by omega) with rfl | rfl | rfl | rfl | rfl | rfl | rfl | rfl | rfl | rfl | rfl | rfl | rfl | rfl | rfl | rfl | rfl | rfl | rfl | rfl | rfl | rfl | rfl | rfl | rfl | rfl | rfl | rfl | rfl | rfl | rfl | rfl | rfl | rfl | rfl | rfl | rfl | rfl | rfl | rfl | rfl | rfl | rfl | rfl | rfl | rfl | rfl | rfl | rfl | rfl | rfl | rfl | rfl | rfl | rfl | rfl | rfl | rfl | rfl | rfl | rfl | rfl | rfl
  · exact ext64 w
  · exact ext65 w
  · exact ext66 w
  · exact ext67 w
  · exact ext68 w
  · exact ext69 w
  · exact ext70 w
  · exact ext71 w
  · exact ext72 w
  · exact ext73 w
  · exact ext74 w
  · exact ext75 w
  · exact ext76 w
  · exact ext77 w
  · exact ext78 w
  · exact ext79 w
  · exact ext80 w
  · exact ext81 w
  · exact ext82 w
  · exact ext83 w
  · exact ext84 w
  · exact ext85 w
  · exact ext86 w
  · exact ext87 w
  · exact ext88 w
  · exact ext89 w
  · exact ext90 w
  · exact ext91 w
  · exact ext92 w
  · exact ext93 w
  · exact ext94 w
  · exact ext95 w
  · exact ext96 w
  · exact ext97 w
  · exact ext98 w
  · exact ext99 w
  · exact ext100 w
  · exact ext101 w
  · exact ext102 w
  · exact ext103 w
  · exact ext104 w
  · exact ext105 w
  · exact ext106 w
  · exact ext107 w
  · exact ext108 w
  · exact ext109 w
  · exact ext110 w
  · exact ext111 w
  · exact ext112 w
  · exact ext113 w
  · exact ext114 w
  · exact ext115 w
  · exact ext116 w
  · exact ext117 w
  · exact ext118 w
  · exact ext119 w
  · exact ext120 w
  · exact ext121 w
  · exact ext122 w
  · exact ext123 w
  · exact ext124 w
  · exact ext125 w
  · exact ext126 w
set_option maxRecDepth 100000 in
theorem ix_still (c : Int) (h : 64 ≤ c ∧ c ≤ 126) : decide (0 ≤ ixOf c) = TS.stills c := by
  rcases (show c = 64 ∨ c = 65 ∨ c = 66 ∨ c = 67 ∨ c = 68 ∨ c = 69 ∨ c = 70 ∨ c = 71 ∨ c = 72 ∨ c = 73 ∨ c = 74 ∨ c = 75 ∨ c = 76 ∨ c = 77 ∨ c = 78 ∨ c = 79 ∨ c = 80 ∨ c = 81 ∨ c = 82 ∨ c = 83 ∨ c = 84 ∨ c = 85 ∨ c = 86 ∨ c = 87 ∨ c = 88 ∨ c = 89 ∨ c = 90 ∨ c = 91 ∨ c = 92 ∨ c = 93 ∨ c = 94 ∨ c = 95 ∨ c = 96 ∨ c = 97 ∨ c = 98 ∨ c = 99 ∨ c = 100 ∨ c = 101 ∨ c = 102 ∨ c = 103 ∨ c = 104 ∨ c = 105 ∨ c = 106 ∨ c = 107 ∨ c = 108 ∨ c = 109 ∨ c = 110 ∨ c = 111 ∨ c = 112 ∨ c = 113 ∨ c = 114 ∨ c = 115 ∨ c = 116 ∨ c = 117 ∨ c = 118 ∨ c = 119 ∨ c = 120 ∨ c = 121 ∨ c = 122 ∨ c = 123 ∨ c = 124 ∨ c = 125 ∨ c = 126 by omega) with rfl | rfl | rfl | rfl | rfl | rfl | rfl | rfl | rfl | rfl | rfl | rfl | rfl | rfl | rfl | rfl | rfl | rfl | rfl | rfl | rfl | rfl | rfl | rfl | rfl | rfl | rfl | rfl | rfl | rfl | rfl | rfl | rfl | rfl | rfl | rfl | rfl | rfl | rfl | rfl | rfl | rfl | rfl | rfl | rfl | rfl | rfl | rfl | rfl | rfl | rfl | rfl | rfl | rfl | rfl | rfl | rfl | rfl | rfl | rfl | rfl | rfl | rfl <;> rfl
theorem index_any (c : Int) (h : 64 ≤ c ∧ c ≤ 126) (w : World) : Calls Tryd.prog 84 #[.string ⟨#[65, 66, 67, 68, 71, 100, 72, 102, 64, 80, 88, 76, 77]⟩, .int .u8 c] w fun e w' => e = .returned (.int .i64 (ixOf c)) ∧ w' = w := by
  have l1 : Calls Tryd.prog 111 #[.string ⟨#[65, 66, 67, 68, 71, 100, 72, 102, 64, 80, 88, 76, 77]⟩, .int .u8 c] w fun e w' => e = .returned (.int .i64 (ixOf c)) ∧ w' = w := by
    have h := ext_all c h w
    go_enter Tryd.func111, Tryd.ntmps111
    go_wp2_with fail
    go_ret
    exact ⟨rfl, rfl⟩
  generalize ixOf c = r at *
  go_enter Tryd.func84, Tryd.ntmps84
  go_wp2_with (go_at_call 111; refine l1.mono ?_; rintro e w1 ⟨rfl, hw1⟩; have hw2 := hw1.symm; subst hw2)
  go_ret
  exact ⟨rfl, rfl⟩

end Go.Proofs.YtheibfffilomcaaDoor
