/-
  The library's contracts of slices.Insert, Delete, BinarySearch over integers, laid at this program.
-/
import Derived.Test.YtebcnhnkpmbgdabProg
import Derived.Shelf.Slices.Delete
import Derived.Lib.RowBridge
import Derived.Shelf.Slices.Empties
import Derived.Shelf.Spec.SlicesInsertGrow
namespace Go.Proofs.Ytebcnhnkpmbgdab
open Go.RowKit Go.Shelf
set_option maxRecDepth 20000

def shelfRen : Go.Shelf.Ren := ⟨fun | 21 => 53 | 27 => 54 | 28 => 55 | 35 => 56 | 39 => 57 | 23 => 52 | 25 => 61 | 31 => 62 | 32 => 63 | 37 => 64 | n => n,
  fun | 0 => 0 | 3 => 3 | 4 => 4 | 22 => 31 | 40 => 106 | n => n, fun n => n⟩

theorem laysInsert : Lays2.n21 Try.prog shelfRen := {
  mixed := by kernel_rfl
  f21 := Try.func53.trans (congrArg some (by kernel_rfl))
  f27 := Try.func54.trans (congrArg some (by kernel_rfl))
  f28 := Try.func55.trans (congrArg some (by kernel_rfl))
  f35 := Try.func56.trans (congrArg some (by kernel_rfl))
  f39 := Try.func57.trans (congrArg some (by kernel_rfl))
  t0 := Try.underlying0
  a0 := Try.isAgg0
  z0 := Try.sizeOf0
  v0 := Try.zeroValue0
  t3 := Try.underlying3
  a3 := Try.isAgg3
  z3 := Try.sizeOf3
  v3 := Try.zeroValue3
  t4 := Try.underlying4
  a4 := Try.isAgg4
  z4 := Try.sizeOf4
  v4 := Try.zeroValue4
  t22 := Try.underlying31
  a22 := Try.isAgg31
  z22 := Try.sizeOf31
  v22 := Try.zeroValue31
  i3 := by kernel_rfl }

theorem laysDelete : Lays2.n23 Try.prog shelfRen := {
  mixed := by kernel_rfl
  f23 := Try.func52.trans (congrArg some (by kernel_rfl))
  t0 := Try.underlying0
  a0 := Try.isAgg0
  z0 := Try.sizeOf0
  v0 := Try.zeroValue0
  t3 := Try.underlying3
  a3 := Try.isAgg3
  z3 := Try.sizeOf3
  v3 := Try.zeroValue3
  t4 := Try.underlying4
  a4 := Try.isAgg4
  z4 := Try.sizeOf4
  v4 := Try.zeroValue4
  t22 := Try.underlying31
  a22 := Try.isAgg31
  z22 := Try.sizeOf31
  v22 := Try.zeroValue31
  i3 := by kernel_rfl }

theorem laysSearch : Lays2.n25 Try.prog shelfRen := {
  mixed := by kernel_rfl
  f25 := Try.func61.trans (congrArg some (by kernel_rfl))
  f31 := Try.func62.trans (congrArg some (by kernel_rfl))
  f32 := Try.func63.trans (congrArg some (by kernel_rfl))
  f37 := Try.func64.trans (congrArg some (by kernel_rfl))
  t0 := Try.underlying0
  a0 := Try.isAgg0
  z0 := Try.sizeOf0
  v0 := Try.zeroValue0
  t3 := Try.underlying3
  a3 := Try.isAgg3
  z3 := Try.sizeOf3
  v3 := Try.zeroValue3
  t4 := Try.underlying4
  a4 := Try.isAgg4
  z4 := Try.sizeOf4
  v4 := Try.zeroValue4
  t22 := Try.underlying31
  a22 := Try.isAgg31
  z22 := Try.sizeOf31
  v22 := Try.zeroValue31
  t40 := Try.underlying106
  a40 := Try.isAgg106
  z40 := Try.sizeOf106
  v40 := Try.zeroValue106 }
end Go.Proofs.Ytebcnhnkpmbgdab
