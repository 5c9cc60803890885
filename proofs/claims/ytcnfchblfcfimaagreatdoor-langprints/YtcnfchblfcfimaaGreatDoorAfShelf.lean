/- The library's contracts, laid at this program. -/
import Derived.Shelf.Bits.Mul64
import Derived.Ground.NamesProg
import Derived.Test.YtcnfchblfcfimaaGreatDoorRows
namespace Go.Proofs.YtcnfchblfcfimaaGreatDoor
open Go.Shelf
def laysBM_ren : Go.Shelf.Ren := ⟨fun | 212 => 166 | 263 => 200 | 264 => 201 | n => n, fun | 46 => 155 | 51 => 189 | 146 => 190 | 53 => 28 | 148 => 192 | n => n, fun | n => n⟩
theorem laysBM : Go.Proofs.Lays.n212 Tryz.prog laysBM_ren := {
  mixed := by kernel_rfl
  f212 := Tryz.func166.trans (congrArg some (by kernel_rfl))
  f263 := Tryz.func200.trans (congrArg some (by kernel_rfl))
  f264 := Tryz.func201.trans (congrArg some (by kernel_rfl))
  t46 := Tryz.underlying155
  a46 := Tryz.isAgg155
  z46 := Tryz.sizeOf155
  v46 := Tryz.zeroValue155
  t51 := Tryz.underlying189
  a51 := Tryz.isAgg189
  z51 := Tryz.sizeOf189
  v51 := Tryz.zeroValue189
  t53 := Tryz.underlying28
  a53 := Tryz.isAgg28
  z53 := Tryz.sizeOf28
  v53 := Tryz.zeroValue28
  t146 := Tryz.underlying190
  a146 := Tryz.isAgg190
  z146 := Tryz.sizeOf190
  v146 := Tryz.zeroValue190
  t148 := Tryz.underlying192
  a148 := Tryz.isAgg192
  z148 := Tryz.sizeOf192
  v148 := Tryz.zeroValue192 }
end Go.Proofs.YtcnfchblfcfimaaGreatDoor
