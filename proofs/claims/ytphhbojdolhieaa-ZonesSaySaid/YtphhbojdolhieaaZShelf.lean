/-
  The library's contracts of maps.Keys, slices.Sorted and slices.Sort over int, laid at this program.
-/
import Derived.Test.YtphhbojdolhieaaProg
import Derived.Shelf.SlIterI.Sorted
import Derived.Shelf.SlIterI.Nil
import Derived.Shelf.SortM.Plain
import Derived.Shelf.SortM.SortNone
namespace Go.Proofs.Ytphhbojdolhieaa
open Go.RowKit Go.Shelf Go.Sort
set_option maxRecDepth 20000

def seqRen : Go.Shelf.Ren := ⟨fun | 6 => 38 | 7 => 39 | 8 => 50 | 9 => 51 | 10 => 52 | 11 => 57 | n => n,
  fun | 0 => 0 | 3 => 78 | 4 => 4 | 23 => 56 | 24 => 43 | 26 => 3 | 27 => 82 | 28 => 83 | 33 => 93 | n => n, fun n => n⟩
def srtRen : Go.Shelf.Ren := ⟨fun | 5 => 51 | 7 => 58 | 8 => 59 | 10 => 61 | 11 => 62 | 12 => 63 | 13 => 64 | 14 => 65 | 15 => 66 | 16 => 67 | 17 => 68 | 18 => 69 | 19 => 70 | 20 => 71 | 30 => 72 | 31 => 73 | 32 => 74 | 33 => 75 | 34 => 76 | 35 => 77 | 40 => 78 | n => n,
  fun | 0 => 0 | 3 => 3 | 4 => 4 | 5 => 5 | 9 => 9 | 22 => 43 | 23 => 43 | 25 => 3 | 32 => 99 | 35 => 102 | 36 => 103 | 41 => 66 | 44 => 109 | 46 => 111 | 53 => 112 | 57 => 116 | 63 => 118 | 64 => 119 | n => n, fun n => n⟩

theorem laysKeys : SlLaysZI.n7 Try.prog seqRen := {
  mixed := by kernel_rfl
  f7 := ⟨("maps.Keys[map[int]alibi/zones.operation,int,alibi/zones.operation]"), by decide, Try.func39.trans (congrArg some (by kernel_rfl))⟩
  f10 := ⟨("maps.Keys[map[int]alibi/zones.operation,int,alibi/zones.operation]$1"), by decide, Try.func52.trans (congrArg some (by kernel_rfl))⟩
  t0 := Try.underlying0
  a0 := Try.isAgg0
  z0 := Try.sizeOf0
  v0 := Try.zeroValue0
  t4 := Try.underlying4
  a4 := Try.isAgg4
  z4 := Try.sizeOf4
  v4 := Try.zeroValue4
  t23 := Try.underlying56
  a23 := Try.isAgg56
  z23 := Try.sizeOf56
  v23 := Try.zeroValue56
  t26 := Try.underlying3
  a26 := Try.isAgg3
  z26 := Try.sizeOf3
  v26 := Try.zeroValue3
  t27 := Try.underlying82
  a27 := Try.isAgg82
  z27 := Try.sizeOf82
  v27 := Try.zeroValue82
  t28 := Try.underlying83
  a28 := Try.isAgg83
  z28 := Try.sizeOf83
  v28 := Try.zeroValue83
  t33 := Try.underlying93
  a33 := Try.isAgg93
  z33 := Try.sizeOf93
  v33 := Try.zeroValue93
  }

theorem laysSorted : SlLaysZI.n6 Try.prog seqRen := {
  mixed := by kernel_rfl
  f6 := ⟨("slices.Sorted[int]"), by decide, Try.func38.trans (congrArg some (by kernel_rfl))⟩
  f8 := ⟨("slices.Collect[int]"), by decide, Try.func50.trans (congrArg some (by kernel_rfl))⟩
  f11 := ⟨("slices.AppendSeq[[]int,int]"), by decide, Try.func57.trans (congrArg some (by kernel_rfl))⟩
  t0 := Try.underlying0
  a0 := Try.isAgg0
  z0 := Try.sizeOf0
  v0 := Try.zeroValue0
  t24 := Try.underlying43
  a24 := Try.isAgg43
  z24 := Try.sizeOf43
  v24 := Try.zeroValue43
  t26 := Try.underlying3
  a26 := Try.isAgg3
  z26 := Try.sizeOf3
  v26 := Try.zeroValue3
  t28 := Try.underlying83
  a28 := Try.isAgg83
  z28 := Try.sizeOf83
  v28 := Try.zeroValue83
  i26 := by kernel_rfl
  }

theorem laysSort : SlLaysM.n5 Try.prog srtRen := {
  mixed := by kernel_rfl
  f5 := ⟨("slices.Sort[[]int,int]"), by decide, Try.func51.trans (congrArg some (by kernel_rfl))⟩
  f7 := ⟨("slices.pdqsortOrdered[int]"), by decide, Try.func58.trans (congrArg some (by kernel_rfl))⟩
  f8 := Try.func59.trans (congrArg some (by kernel_rfl))
  f10 := ⟨("slices.insertionSortOrdered[int]"), by decide, Try.func61.trans (congrArg some (by kernel_rfl))⟩
  f11 := ⟨("slices.heapSortOrdered[int]"), by decide, Try.func62.trans (congrArg some (by kernel_rfl))⟩
  f12 := ⟨("slices.breakPatternsOrdered[int]"), by decide, Try.func63.trans (congrArg some (by kernel_rfl))⟩
  f13 := ⟨("slices.choosePivotOrdered[int]"), by decide, Try.func64.trans (congrArg some (by kernel_rfl))⟩
  f14 := ⟨("slices.reverseRangeOrdered[int]"), by decide, Try.func65.trans (congrArg some (by kernel_rfl))⟩
  f15 := ⟨("slices.partialInsertionSortOrdered[int]"), by decide, Try.func66.trans (congrArg some (by kernel_rfl))⟩
  f16 := ⟨("cmp.Less[int]"), by decide, Try.func67.trans (congrArg some (by kernel_rfl))⟩
  f17 := ⟨("slices.partitionEqualOrdered[int]"), by decide, Try.func68.trans (congrArg some (by kernel_rfl))⟩
  f18 := ⟨("slices.partitionOrdered[int]"), by decide, Try.func69.trans (congrArg some (by kernel_rfl))⟩
  f19 := Try.func70.trans (congrArg some (by kernel_rfl))
  f20 := Try.func71.trans (congrArg some (by kernel_rfl))
  f30 := ⟨("slices.siftDownOrdered[int]"), by decide, Try.func72.trans (congrArg some (by kernel_rfl))⟩
  f31 := Try.func73.trans (congrArg some (by kernel_rfl))
  f32 := Try.func74.trans (congrArg some (by kernel_rfl))
  f33 := ⟨("slices.medianAdjacentOrdered[int]"), by decide, Try.func75.trans (congrArg some (by kernel_rfl))⟩
  f34 := ⟨("slices.medianOrdered[int]"), by decide, Try.func76.trans (congrArg some (by kernel_rfl))⟩
  f35 := ⟨("cmp.isNaN[int]"), by decide, Try.func77.trans (congrArg some (by kernel_rfl))⟩
  f40 := ⟨("slices.order2Ordered[int]"), by decide, Try.func78.trans (congrArg some (by kernel_rfl))⟩
  t0 := Try.underlying0
  a0 := Try.isAgg0
  z0 := Try.sizeOf0
  v0 := Try.zeroValue0
  t3 := Try.underlying3
  a3 := Try.isAgg3
  z3 := Try.sizeOf3
  v3 := Try.zeroValue3
  t4 := Try.underlying4
  a4 := Try.isAgg4
  z4 := Try.sizeOf4
  v4 := Try.zeroValue4
  t5 := Try.underlying5
  a5 := Try.isAgg5
  z5 := Try.sizeOf5
  v5 := Try.zeroValue5
  t9 := Try.underlying9
  a9 := Try.isAgg9
  z9 := Try.sizeOf9
  v9 := Try.zeroValue9
  t22 := Try.underlying43
  a22 := Try.isAgg43
  z22 := Try.sizeOf43
  v22 := Try.zeroValue43
  t23 := Try.underlying43
  a23 := Try.isAgg43
  z23 := Try.sizeOf43
  v23 := Try.zeroValue43
  t25 := Try.underlying3
  a25 := Try.isAgg3
  z25 := Try.sizeOf3
  v25 := Try.zeroValue3
  t32 := Try.underlying99
  a32 := Try.isAgg99
  z32 := Try.sizeOf99
  v32 := Try.zeroValue99
  t35 := Try.underlying102
  a35 := Try.isAgg102
  z35 := Try.sizeOf102
  v35 := Try.zeroValue102
  t36 := Try.underlying103
  a36 := Try.isAgg103
  z36 := Try.sizeOf103
  v36 := Try.zeroValue103
  t41 := Try.underlying66
  a41 := Try.isAgg66
  z41 := Try.sizeOf66
  v41 := Try.zeroValue66
  t44 := Try.underlying109
  a44 := Try.isAgg109
  z44 := Try.sizeOf109
  v44 := Try.zeroValue109
  t46 := Try.underlying111
  a46 := Try.isAgg111
  z46 := Try.sizeOf111
  v46 := Try.zeroValue111
  t53 := Try.underlying112
  a53 := Try.isAgg112
  z53 := Try.sizeOf112
  v53 := Try.zeroValue112
  t57 := Try.underlying116
  a57 := Try.isAgg116
  z57 := Try.sizeOf116
  v57 := Try.zeroValue116
  t63 := Try.underlying118
  a63 := Try.isAgg118
  z63 := Try.sizeOf118
  v63 := Try.zeroValue118
  t64 := Try.underlying119
  a64 := Try.isAgg119
  z64 := Try.sizeOf119
  v64 := Try.zeroValue119
  }

/-- slices.Sort's two contracts, at the fence that asks nothing. -/
theorem sortsZ (m : Nat) : AnyZI.SortsIn Try.prog seqRen Fence.wide m :=
  ⟨fun blk off cap ss W hH hblk hsz => callsIn_wide.2 (AnyM.slices_Sort_int laysSort blk off cap ss W hH hblk hsz),
   fun p cap W => callsIn_wide.2 (AnyM.slices_Sort_int_none laysSort p cap W)⟩
end Go.Proofs.Ytphhbojdolhieaa
