/-
  The library's contracts of slices.Insert, Delete, BinarySearch over integers, laid at this program.
-/
import Derived.Test.YtebcnhnkpmbgdaaProg
import Derived.Shelf.Slices.Delete
import Derived.Lib.RowBridge
import Derived.Shelf.Slices.Empties
import Derived.Shelf.Spec.SlicesInsertGrow
namespace Go.Proofs.Ytebcnhnkpmbgdaa
open Go.RowKit Go.Shelf
set_option maxRecDepth 20000

def shelfRen : Go.Shelf.Ren := ⟨fun | 21 => 85 | 27 => 86 | 28 => 87 | 35 => 88 | 39 => 89 | 23 => 84 | 25 => 93 | 31 => 94 | 32 => 95 | 37 => 96 | n => n,
  fun | 0 => 0 | 3 => 3 | 4 => 4 | 22 => 23 | 40 => 108 | n => n, fun n => n⟩

theorem laysInsert : Lays2.n21 Try.prog shelfRen := {
  mixed := by kernel_rfl
  f21 := Try.func85.trans (congrArg some (by kernel_rfl))
  f27 := Try.func86.trans (congrArg some (by kernel_rfl))
  f28 := Try.func87.trans (congrArg some (by kernel_rfl))
  f35 := Try.func88.trans (congrArg some (by kernel_rfl))
  f39 := Try.func89.trans (congrArg some (by kernel_rfl))
  t0 := Try.underlying0
  a0 := Try.isAgg0
  z0 := Try.sizeOf0
  v0 := Try.zeroValue0
  t3 := Try.underlying3
  a3 := Try.isAgg3
  z3 := Try.sizeOf3
  v3 := Try.zeroValue3
  t4 := Try.underlying4
  a4 := Try.isAgg4
  z4 := Try.sizeOf4
  v4 := Try.zeroValue4
  t22 := Try.underlying23
  a22 := Try.isAgg23
  z22 := Try.sizeOf23
  v22 := Try.zeroValue23
  i3 := by kernel_rfl }

theorem laysDelete : Lays2.n23 Try.prog shelfRen := {
  mixed := by kernel_rfl
  f23 := Try.func84.trans (congrArg some (by kernel_rfl))
  t0 := Try.underlying0
  a0 := Try.isAgg0
  z0 := Try.sizeOf0
  v0 := Try.zeroValue0
  t3 := Try.underlying3
  a3 := Try.isAgg3
  z3 := Try.sizeOf3
  v3 := Try.zeroValue3
  t4 := Try.underlying4
  a4 := Try.isAgg4
  z4 := Try.sizeOf4
  v4 := Try.zeroValue4
  t22 := Try.underlying23
  a22 := Try.isAgg23
  z22 := Try.sizeOf23
  v22 := Try.zeroValue23
  i3 := by kernel_rfl }

theorem laysSearch : Lays2.n25 Try.prog shelfRen := {
  mixed := by kernel_rfl
  f25 := Try.func93.trans (congrArg some (by kernel_rfl))
  f31 := Try.func94.trans (congrArg some (by kernel_rfl))
  f32 := Try.func95.trans (congrArg some (by kernel_rfl))
  f37 := Try.func96.trans (congrArg some (by kernel_rfl))
  t0 := Try.underlying0
  a0 := Try.isAgg0
  z0 := Try.sizeOf0
  v0 := Try.zeroValue0
  t3 := Try.underlying3
  a3 := Try.isAgg3
  z3 := Try.sizeOf3
  v3 := Try.zeroValue3
  t4 := Try.underlying4
  a4 := Try.isAgg4
  z4 := Try.sizeOf4
  v4 := Try.zeroValue4
  t22 := Try.underlying23
  a22 := Try.isAgg23
  z22 := Try.sizeOf23
  v22 := Try.zeroValue23
  t40 := Try.underlying108
  a40 := Try.isAgg108
  z40 := Try.sizeOf108
  v40 := Try.zeroValue108 }
end Go.Proofs.Ytebcnhnkpmbgdaa
