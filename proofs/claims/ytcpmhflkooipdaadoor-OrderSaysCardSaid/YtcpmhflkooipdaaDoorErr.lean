/-
  Where closeAcyclic finds a fault: the lists and the count answer nothing, and that fault.
-/
import Derived.Test.YtcpmhflkooipdaaDoorSeq
import Derived.Test.YtcpmhflkooipdaaDoorAcyclic
namespace Go.Proofs.YtcpmhflkooipdaaDoor
open Go.RowKit
set_option maxRecDepth 20000

/-- closeAcyclic tells the fault E, whatever the memory. -/
def Fails (n : Int) (a : Nat → Nat) (E : Int) : Prop := ∀ w : World, Calls Tryd.prog 23 #[relV n a] w fun e w' => e = .returned (.tuple #[zeroV, .int .i64 E]) ∧ Below w.heap.size w w'
theorem fails_check {n : Int} {a : Nat → Nat} {E : Int} (hE : (E != 0) = true) (hc : Checks n a E) : Fails n a E := fun w => acyclic_err n a E w hE hc
theorem fails_round {n : Nat} {a : Nat → Nat} (h : Good n a) (hy : cyc (clo n a) n = true) : Fails n a 4 := fun w => acyclic_yes n a w h hy

set_option maxHeartbeats 1000000 in
theorem count_err (n : Int) (a : Nat → Nat) (E : Int) (w : World) (hE : (E != 0) = true) (hF : Fails n a E) :
    Calls Tryd.prog 7 #[relV n a] w fun e w' => e = .returned (.tuple #[.int .i64 0, .int .i64 E]) ∧ Below w.heap.size w w' := by
  go_enter Tryd.func7, Tryd.ntmps7
  go_wp2_with fail
  refine (hF _).mono ?_
  rintro e w1 ⟨rfl, hb1⟩
  have hw1 : Below w.heap.size w w1 := ((Below.refl _ _).alloc (Nat.le_refl _) _).trans (hb1.mono (by simp))
  have HW := Lib.hid hw1
  clear hb1 hw1
  go_wp2_with fail
  go_ret2
  exact ⟨rfl, HW.out.alloc HW.out.size _⟩

set_option maxHeartbeats 1000000 in
theorem least_err (n : Int) (a : Nat → Nat) (E : Int) (w : World) (hE : (E != 0) = true) (hF : Fails n a E) :
    Calls Tryd.prog 6 #[relV n a] w fun e w' => e = .returned (.tuple #[.slice none 0 0, .int .i64 E]) ∧ Below w.heap.size w w' := by
  go_enter Tryd.func6, Tryd.ntmps6
  go_wp2_with fail
  refine (hF _).mono ?_
  rintro e w1 ⟨rfl, hb1⟩
  have hw1 : Below w.heap.size w w1 := ((Below.refl _ _).alloc (Nat.le_refl _) _).trans (hb1.mono (by simp))
  have HW := Lib.hid hw1
  clear hb1 hw1
  go_wp2_with fail
  go_ret2
  exact ⟨rfl, HW.out.alloc HW.out.size _⟩

set_option maxHeartbeats 1000000 in
theorem apart_err (n : Int) (a : Nat → Nat) (E : Int) (w : World) (hE : (E != 0) = true) (hF : Fails n a E) :
    Calls Tryd.prog 15 #[relV n a] w fun e w' => e = .returned (.tuple #[.slice none 0 0, .int .i64 E]) ∧ Below w.heap.size w w' := by
  go_enter Tryd.func15, Tryd.ntmps15
  go_wp2_with fail
  refine (hF _).mono ?_
  rintro e w1 ⟨rfl, hb1⟩
  have hw1 : Below w.heap.size w w1 := ((Below.refl _ _).alloc (Nat.le_refl _) _).trans (hb1.mono (by simp))
  have HW := Lib.hid hw1
  clear hb1 hw1
  go_wp2_with fail
  go_ret2
  exact ⟨rfl, HW.out.alloc HW.out.size _⟩

set_option maxHeartbeats 1000000 in
theorem chains_err (n : Int) (a : Nat → Nat) (E : Int) (w : World) (hE : (E != 0) = true) (hF : Fails n a E) :
    Calls Tryd.prog 17 #[relV n a] w fun e w' => e = .returned (.tuple #[.slice none 0 0, .int .i64 E]) ∧ Below w.heap.size w w' := by
  go_enter Tryd.func17, Tryd.ntmps17
  go_wp2_with fail
  refine (hF _).mono ?_
  rintro e w1 ⟨rfl, hb1⟩
  have hw1 : Below w.heap.size w w1 := ((Below.refl _ _).alloc (Nat.le_refl _) _).trans (hb1.mono (by simp))
  have HW := Lib.hid hw1
  clear hb1 hw1
  go_wp2_with fail
  go_ret2
  exact ⟨rfl, HW.out.alloc HW.out.size _⟩

set_option maxHeartbeats 1000000 in
theorem chain_err (n : Int) (a : Nat → Nat) (E : Int) (w : World) (hE : (E != 0) = true) (hF : Fails n a E) :
    Calls Tryd.prog 14 #[relV n a] w fun e w' => e = .returned (.tuple #[.slice none 0 0, .int .i64 E]) ∧ Below w.heap.size w w' := by
  go_enter Tryd.func14, Tryd.ntmps14
  go_wp2_with fail
  refine (hF _).mono ?_
  rintro e w1 ⟨rfl, hb1⟩
  have hw1 : Below w.heap.size w w1 := ((Below.refl _ _).alloc (Nat.le_refl _) _).trans (hb1.mono (by simp))
  have HW := Lib.hid hw1
  clear hb1 hw1
  go_wp2_with fail
  go_ret2
  exact ⟨rfl, HW.out.alloc HW.out.size _⟩

set_option maxHeartbeats 1000000 in
theorem ranks_err (n : Int) (a : Nat → Nat) (E : Int) (w : World) (hE : (E != 0) = true) (hF : Fails n a E) :
    Calls Tryd.prog 16 #[relV n a] w fun e w' => e = .returned (.tuple #[.slice none 0 0, .int .i64 E]) ∧ Below w.heap.size w w' := by
  go_enter Tryd.func16, Tryd.ntmps16
  go_wp2_with fail
  refine (hF _).mono ?_
  rintro e w1 ⟨rfl, hb1⟩
  have hw1 : Below w.heap.size w w1 := ((Below.refl _ _).alloc (Nat.le_refl _) _).trans (hb1.mono (by simp))
  have HW := Lib.hid hw1
  clear hb1 hw1
  go_wp2_with fail
  go_ret2
  exact ⟨rfl, HW.out.alloc HW.out.size _⟩
end Go.Proofs.YtcpmhflkooipdaaDoor
