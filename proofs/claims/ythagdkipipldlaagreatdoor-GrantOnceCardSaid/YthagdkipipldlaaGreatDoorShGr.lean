/- The library's slices.Insert and slices.BinarySearch over ints, laid at this translation. No condition. -/
import Derived.Shelf.Slices.SearchI
import Derived.Shelf.Spec.SlicesInsert
import Derived.Shelf.Spec.SlicesInsertGrow
import Derived.Test.YthagdkipipldlaaGreatDoorProg
namespace Go.Proofs.YthagdkipipldlaaGreatDoor.sh
open Go.Shelf
def laysIns_ren : Go.Shelf.Ren := ⟨fun | 21 => 140 | 27 => 163 | 28 => 164 | 35 => 177 | 39 => 181 | n => n, fun | 0 => 0 | 3 => 3 | 4 => 4 | 22 => 39 | n => n, fun  | n => n⟩
theorem laysIns : Go.Proofs.Lays2.n21 Tryz.prog laysIns_ren := {
  mixed := by kernel_rfl
  f21 := Tryz.func140.trans (congrArg some (by kernel_rfl))
  f27 := Tryz.func163.trans (congrArg some (by kernel_rfl))
  f28 := Tryz.func164.trans (congrArg some (by kernel_rfl))
  f35 := Tryz.func177.trans (congrArg some (by kernel_rfl))
  f39 := Tryz.func181.trans (congrArg some (by kernel_rfl))
  t0 := Tryz.underlying0
  a0 := Tryz.isAgg0
  z0 := Tryz.sizeOf0
  v0 := Tryz.zeroValue0
  t3 := Tryz.underlying3
  a3 := Tryz.isAgg3
  z3 := Tryz.sizeOf3
  v3 := Tryz.zeroValue3
  t4 := Tryz.underlying4
  a4 := Tryz.isAgg4
  z4 := Tryz.sizeOf4
  v4 := Tryz.zeroValue4
  t22 := Tryz.underlying39
  a22 := Tryz.isAgg39
  z22 := Tryz.sizeOf39
  v22 := Tryz.zeroValue39
  i3 := by kernel_rfl }
def laysBis_ren : Go.Shelf.Ren := ⟨fun | 25 => 139 | 31 => 161 | 32 => 162 | 37 => 176 | n => n, fun | 0 => 0 | 3 => 3 | 4 => 4 | 22 => 39 | 40 => 88 | n => n, fun  | n => n⟩
theorem laysBis : Go.Proofs.Lays2.n25 Tryz.prog laysBis_ren := {
  mixed := by kernel_rfl
  f25 := Tryz.func139.trans (congrArg some (by kernel_rfl))
  f31 := Tryz.func161.trans (congrArg some (by kernel_rfl))
  f32 := Tryz.func162.trans (congrArg some (by kernel_rfl))
  f37 := Tryz.func176.trans (congrArg some (by kernel_rfl))
  t0 := Tryz.underlying0
  a0 := Tryz.isAgg0
  z0 := Tryz.sizeOf0
  v0 := Tryz.zeroValue0
  t3 := Tryz.underlying3
  a3 := Tryz.isAgg3
  z3 := Tryz.sizeOf3
  v3 := Tryz.zeroValue3
  t4 := Tryz.underlying4
  a4 := Tryz.isAgg4
  z4 := Tryz.sizeOf4
  v4 := Tryz.zeroValue4
  t22 := Tryz.underlying39
  a22 := Tryz.isAgg39
  z22 := Tryz.sizeOf39
  v22 := Tryz.zeroValue39
  t40 := Tryz.underlying88
  a40 := Tryz.isAgg88
  z40 := Tryz.sizeOf88
  v40 := Tryz.zeroValue88 }
end Go.Proofs.YthagdkipipldlaaGreatDoor.sh
