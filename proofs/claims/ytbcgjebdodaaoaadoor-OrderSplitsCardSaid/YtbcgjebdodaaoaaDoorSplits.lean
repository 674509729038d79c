/-
  alibkeep.OrderSplits answers true, whatever the relation and the items.
-/
import Derived.Test.YtbcgjebdodaaoaaDoorAlive
import Derived.Test.YtbcgjebdodaaoaaDoorSplitRel
namespace Go.Proofs.YtbcgjebdodaaoaaDoor
open Go.RowKit

set_option maxHeartbeats 1000000 in
theorem splits_err (n : Int) (a : Nat → Nat) (i j N E : Int) (w : World) (hE : (E != 0) = true)
    (hc : ∀ w, Calls Tryd.prog 13 #[relV n a] w fun e w' => e = .returned (.tuple #[.int .i64 N, .int .i64 E]) ∧ Below w.heap.size w w') (hT : Tab w) (hpos : 0 < w.heap.size) :
    Calls Tryd.prog 4 #[relV n a, .int .i64 i, .int .i64 j] w fun e w' => e = .returned (.bool true) ∧ Below w.heap.size w w' := by
  have HT := Lib.hid (And.intro hT hpos)
  clear hT hpos
  go_enter Tryd.func4, Tryd.ntmps4
  go_wp2_with fail
  refine (hc _).mono ?_
  rintro e w1 ⟨rfl, hb1⟩
  have hw1 : Below w.heap.size w w1 := ((Below.refl _ _).alloc (Nat.le_refl _) _).trans (hb1.mono (by simp))
  have HW1 := Lib.hid hw1
  clear hb1 hw1
  go_wp2_with fail
  refine (lives_true _ (HT.out.1.below HW1.out HT.out.2) (Nat.lt_of_lt_of_le HT.out.2 HW1.out.size)).mono ?_
  rintro e w2 ⟨rfl, hb2⟩
  have hw2 := HW1.out.trans (hb2.mono HW1.out.size)
  have HW2 := Lib.hid hw2
  clear hb2 hw2 HW1
  go_wp2_with fail
  refine (lives_true _ (HT.out.1.below HW2.out HT.out.2) (Nat.lt_of_lt_of_le HT.out.2 HW2.out.size)).mono ?_
  rintro e w3 ⟨rfl, hb3⟩
  have hw3 := HW2.out.trans (hb3.mono HW2.out.size)
  have HW3 := Lib.hid hw3
  clear hb3 hw3 HW2
  go_wp2_with fail
  go_ret
  exact ⟨rfl, HW3.out⟩

set_option maxHeartbeats 1000000 in
theorem splits_outA (n : Int) (a : Nat → Nat) (i j N : Int) (w : World) (h1 : i < 0)
    (hc : ∀ w, Calls Tryd.prog 13 #[relV n a] w fun e w' => e = .returned (.tuple #[.int .i64 N, .int .i64 0]) ∧ Below w.heap.size w w') (hT : Tab w) (hpos : 0 < w.heap.size) :
    Calls Tryd.prog 4 #[relV n a, .int .i64 i, .int .i64 j] w fun e w' => e = .returned (.bool true) ∧ Below w.heap.size w w' := by
  have HT := Lib.hid (And.intro hT hpos)
  clear hT hpos
  go_enter Tryd.func4, Tryd.ntmps4
  go_wp2_with fail
  refine (hc _).mono ?_
  rintro e w1 ⟨rfl, hb1⟩
  have hw1 : Below w.heap.size w w1 := ((Below.refl _ _).alloc (Nat.le_refl _) _).trans (hb1.mono (by simp))
  have hA1 : RelB w1 w.heap.size n a := Lies.below (Lies.new w _ _) hb1 (by simp)
  have HW1 := Lib.hid (And.intro hw1 hA1)
  clear hb1 hw1 hA1
  go_wp2_with fail
  refine (lives_true _ (HT.out.1.below HW1.out.1 HT.out.2) (Nat.lt_of_lt_of_le HT.out.2 HW1.out.1.size)).mono ?_
  rintro e w2 ⟨rfl, hb2⟩
  have hw2 := HW1.out.1.trans (hb2.mono HW1.out.1.size)
  have hA2 : RelB w2 w.heap.size n a := Lies.below HW1.out.2 hb2 HW1.out.2.lt
  have c0 := hA2.size
  have HW2 := Lib.hid hw2
  clear hb2 hw2 HW1 hA2
  go_wp2_with fail
  refine (lives_true _ (HT.out.1.below HW2.out HT.out.2) (Nat.lt_of_lt_of_le HT.out.2 HW2.out.size)).mono ?_
  rintro e w3 ⟨rfl, hb3⟩
  have hw3 := HW2.out.trans (hb3.mono HW2.out.size)
  have HW3 := Lib.hid hw3
  clear hb3 hw3 HW2 c0
  go_wp2_with fail
  go_ret
  exact ⟨rfl, HW3.out⟩

set_option maxHeartbeats 1000000 in
theorem splits_outB (n : Int) (a : Nat → Nat) (i j N : Int) (w : World) (h1 : ¬ i < 0) (h2 : j < 0)
    (hc : ∀ w, Calls Tryd.prog 13 #[relV n a] w fun e w' => e = .returned (.tuple #[.int .i64 N, .int .i64 0]) ∧ Below w.heap.size w w') (hT : Tab w) (hpos : 0 < w.heap.size) :
    Calls Tryd.prog 4 #[relV n a, .int .i64 i, .int .i64 j] w fun e w' => e = .returned (.bool true) ∧ Below w.heap.size w w' := by
  have HT := Lib.hid (And.intro hT hpos)
  clear hT hpos
  go_enter Tryd.func4, Tryd.ntmps4
  go_wp2_with fail
  refine (hc _).mono ?_
  rintro e w1 ⟨rfl, hb1⟩
  have hw1 : Below w.heap.size w w1 := ((Below.refl _ _).alloc (Nat.le_refl _) _).trans (hb1.mono (by simp))
  have hA1 : RelB w1 w.heap.size n a := Lies.below (Lies.new w _ _) hb1 (by simp)
  have HW1 := Lib.hid (And.intro hw1 hA1)
  clear hb1 hw1 hA1
  go_wp2_with fail
  refine (lives_true _ (HT.out.1.below HW1.out.1 HT.out.2) (Nat.lt_of_lt_of_le HT.out.2 HW1.out.1.size)).mono ?_
  rintro e w2 ⟨rfl, hb2⟩
  have hw2 := HW1.out.1.trans (hb2.mono HW1.out.1.size)
  have hA2 : RelB w2 w.heap.size n a := Lies.below HW1.out.2 hb2 HW1.out.2.lt
  have c0 := hA2.size
  have HW2 := Lib.hid hw2
  clear hb2 hw2 HW1 hA2
  go_wp2_with fail
  refine (lives_true _ (HT.out.1.below HW2.out HT.out.2) (Nat.lt_of_lt_of_le HT.out.2 HW2.out.size)).mono ?_
  rintro e w3 ⟨rfl, hb3⟩
  have hw3 := HW2.out.trans (hb3.mono HW2.out.size)
  have HW3 := Lib.hid hw3
  clear hb3 hw3 HW2 c0
  go_wp2_with fail
  go_ret
  exact ⟨rfl, HW3.out⟩

set_option maxHeartbeats 1000000 in
theorem splits_outC (n : Int) (a : Nat → Nat) (i j N : Int) (w : World) (h1 : ¬ i < 0) (h2 : ¬ j < 0) (h3 : n ≤ i)
    (hc : ∀ w, Calls Tryd.prog 13 #[relV n a] w fun e w' => e = .returned (.tuple #[.int .i64 N, .int .i64 0]) ∧ Below w.heap.size w w') (hT : Tab w) (hpos : 0 < w.heap.size) :
    Calls Tryd.prog 4 #[relV n a, .int .i64 i, .int .i64 j] w fun e w' => e = .returned (.bool true) ∧ Below w.heap.size w w' := by
  have HT := Lib.hid (And.intro hT hpos)
  clear hT hpos
  go_enter Tryd.func4, Tryd.ntmps4
  go_wp2_with fail
  refine (hc _).mono ?_
  rintro e w1 ⟨rfl, hb1⟩
  have hw1 : Below w.heap.size w w1 := ((Below.refl _ _).alloc (Nat.le_refl _) _).trans (hb1.mono (by simp))
  have hA1 : RelB w1 w.heap.size n a := Lies.below (Lies.new w _ _) hb1 (by simp)
  have HW1 := Lib.hid (And.intro hw1 hA1)
  clear hb1 hw1 hA1
  go_wp2_with fail
  refine (lives_true _ (HT.out.1.below HW1.out.1 HT.out.2) (Nat.lt_of_lt_of_le HT.out.2 HW1.out.1.size)).mono ?_
  rintro e w2 ⟨rfl, hb2⟩
  have hw2 := HW1.out.1.trans (hb2.mono HW1.out.1.size)
  have hA2 : RelB w2 w.heap.size n a := Lies.below HW1.out.2 hb2 HW1.out.2.lt
  have c0 := hA2.size
  have HW2 := Lib.hid hw2
  clear hb2 hw2 HW1 hA2
  go_wp2_with fail
  refine (lives_true _ (HT.out.1.below HW2.out HT.out.2) (Nat.lt_of_lt_of_le HT.out.2 HW2.out.size)).mono ?_
  rintro e w3 ⟨rfl, hb3⟩
  have hw3 := HW2.out.trans (hb3.mono HW2.out.size)
  have HW3 := Lib.hid hw3
  clear hb3 hw3 HW2 c0
  go_wp2_with fail
  go_ret
  exact ⟨rfl, HW3.out⟩

set_option maxHeartbeats 1000000 in
theorem splits_outD (n : Int) (a : Nat → Nat) (i j N : Int) (w : World) (h1 : ¬ i < 0) (h2 : ¬ j < 0) (h3 : ¬ n ≤ i) (h4 : n ≤ j)
    (hc : ∀ w, Calls Tryd.prog 13 #[relV n a] w fun e w' => e = .returned (.tuple #[.int .i64 N, .int .i64 0]) ∧ Below w.heap.size w w') (hT : Tab w) (hpos : 0 < w.heap.size) :
    Calls Tryd.prog 4 #[relV n a, .int .i64 i, .int .i64 j] w fun e w' => e = .returned (.bool true) ∧ Below w.heap.size w w' := by
  have HT := Lib.hid (And.intro hT hpos)
  clear hT hpos
  go_enter Tryd.func4, Tryd.ntmps4
  go_wp2_with fail
  refine (hc _).mono ?_
  rintro e w1 ⟨rfl, hb1⟩
  have hw1 : Below w.heap.size w w1 := ((Below.refl _ _).alloc (Nat.le_refl _) _).trans (hb1.mono (by simp))
  have hA1 : RelB w1 w.heap.size n a := Lies.below (Lies.new w _ _) hb1 (by simp)
  have HW1 := Lib.hid (And.intro hw1 hA1)
  clear hb1 hw1 hA1
  go_wp2_with fail
  refine (lives_true _ (HT.out.1.below HW1.out.1 HT.out.2) (Nat.lt_of_lt_of_le HT.out.2 HW1.out.1.size)).mono ?_
  rintro e w2 ⟨rfl, hb2⟩
  have hw2 := HW1.out.1.trans (hb2.mono HW1.out.1.size)
  have hA2 : RelB w2 w.heap.size n a := Lies.below HW1.out.2 hb2 HW1.out.2.lt
  have c0 := hA2.size
  have HW2 := Lib.hid hw2
  clear hb2 hw2 HW1 hA2
  go_wp2_with fail
  refine (lives_true _ (HT.out.1.below HW2.out HT.out.2) (Nat.lt_of_lt_of_le HT.out.2 HW2.out.size)).mono ?_
  rintro e w3 ⟨rfl, hb3⟩
  have hw3 := HW2.out.trans (hb3.mono HW2.out.size)
  have HW3 := Lib.hid hw3
  clear hb3 hw3 HW2 c0
  go_wp2_with fail
  go_ret
  exact ⟨rfl, HW3.out⟩

set_option maxHeartbeats 1000000 in
theorem splits_outE (n : Int) (a : Nat → Nat) (i j N : Int) (w : World) (_h1 : ¬ i < 0) (h2 : ¬ j < 0) (_h3 : ¬ n ≤ i) (h4 : ¬ n ≤ j) (h5 : i = j)
    (hc : ∀ w, Calls Tryd.prog 13 #[relV n a] w fun e w' => e = .returned (.tuple #[.int .i64 N, .int .i64 0]) ∧ Below w.heap.size w w') (hT : Tab w) (hpos : 0 < w.heap.size) :
    Calls Tryd.prog 4 #[relV n a, .int .i64 i, .int .i64 j] w fun e w' => e = .returned (.bool true) ∧ Below w.heap.size w w' := by
  have HT := Lib.hid (And.intro hT hpos)
  clear hT hpos
  go_enter Tryd.func4, Tryd.ntmps4
  go_wp2_with fail
  refine (hc _).mono ?_
  rintro e w1 ⟨rfl, hb1⟩
  have hw1 : Below w.heap.size w w1 := ((Below.refl _ _).alloc (Nat.le_refl _) _).trans (hb1.mono (by simp))
  have hA1 : RelB w1 w.heap.size n a := Lies.below (Lies.new w _ _) hb1 (by simp)
  have HW1 := Lib.hid (And.intro hw1 hA1)
  clear hb1 hw1 hA1
  go_wp2_with fail
  refine (lives_true _ (HT.out.1.below HW1.out.1 HT.out.2) (Nat.lt_of_lt_of_le HT.out.2 HW1.out.1.size)).mono ?_
  rintro e w2 ⟨rfl, hb2⟩
  have hw2 := HW1.out.1.trans (hb2.mono HW1.out.1.size)
  have hA2 : RelB w2 w.heap.size n a := Lies.below HW1.out.2 hb2 HW1.out.2.lt
  have c0 := hA2.size
  have HW2 := Lib.hid hw2
  clear hb2 hw2 HW1 hA2
  go_wp2_with fail
  refine (lives_true _ (HT.out.1.below HW2.out HT.out.2) (Nat.lt_of_lt_of_le HT.out.2 HW2.out.size)).mono ?_
  rintro e w3 ⟨rfl, hb3⟩
  have hw3 := HW2.out.trans (hb3.mono HW2.out.size)
  have HW3 := Lib.hid hw3
  clear hb3 hw3 HW2 c0
  go_wp2_with fail
  go_ret
  exact ⟨rfl, HW3.out⟩
end Go.Proofs.YtbcgjebdodaaoaaDoor
