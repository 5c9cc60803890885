/- The library's contracts, laid at this program. -/
import Derived.Shelf.Bits.Mul64
import Derived.Ground.NamesProg
import Derived.Test.YtgicnopppgnjjaaGreatDoorRows
namespace Go.Proofs.YtgicnopppgnjjaaGreatDoor
open Go.Shelf
def laysBM_ren : Go.Shelf.Ren := ⟨fun | 212 => 158 | 263 => 185 | 264 => 186 | n => n, fun | 46 => 159 | 51 => 186 | 146 => 187 | 53 => 28 | 148 => 189 | n => n, fun | n => n⟩
theorem laysBM : Go.Proofs.Lays.n212 Tryz.prog laysBM_ren := {
  mixed := by kernel_rfl
  f212 := Tryz.func158.trans (congrArg some (by kernel_rfl))
  f263 := Tryz.func185.trans (congrArg some (by kernel_rfl))
  f264 := Tryz.func186.trans (congrArg some (by kernel_rfl))
  t46 := Tryz.underlying159
  a46 := Tryz.isAgg159
  z46 := Tryz.sizeOf159
  v46 := Tryz.zeroValue159
  t51 := Tryz.underlying186
  a51 := Tryz.isAgg186
  z51 := Tryz.sizeOf186
  v51 := Tryz.zeroValue186
  t53 := Tryz.underlying28
  a53 := Tryz.isAgg28
  z53 := Tryz.sizeOf28
  v53 := Tryz.zeroValue28
  t146 := Tryz.underlying187
  a146 := Tryz.isAgg187
  z146 := Tryz.sizeOf187
  v146 := Tryz.zeroValue187
  t148 := Tryz.underlying189
  a148 := Tryz.isAgg189
  z148 := Tryz.sizeOf189
  v148 := Tryz.zeroValue189 }
end Go.Proofs.YtgicnopppgnjjaaGreatDoor
