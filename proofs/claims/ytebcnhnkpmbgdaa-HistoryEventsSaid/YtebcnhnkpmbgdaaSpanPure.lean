/-
  Plain mathematics for package spans: m spans, from F i to T i. No Go, no program.
-/
import Derived.WalkKit
namespace Go.Proofs.Ytebcnhnkpmbgdaa
open Go.RowKit
set_option maxRecDepth 20000

def spOk (F T : Nat → Int) (i : Nat) : Bool := decide (0 ≤ F i ∧ F i ≤ T i ∧ T i ≤ 1000000)
def spAll (F T : Nat → Int) : Nat → Bool
  | 0 => true
  | k + 1 => spAll F T k && spOk F T k
/-- What Check answers. -/
def spErr (m : Nat) (F T : Nat → Int) : Int := if 12 < m then 2 else if spAll F T m = true then 0 else 3
theorem spAll_iff (F T : Nat → Int) : ∀ m, spAll F T m = true ↔ ∀ i, i < m → spOk F T i = true
  | 0 => by simp [spAll]
  | m + 1 => by
    rw [spAll, Bool.and_eq_true, spAll_iff F T m]
    constructor
    · rintro ⟨h1, h2⟩ i hi
      rcases Nat.lt_or_ge i m with h | h
      · exact h1 i h
      · obtain rfl : i = m := by omega
        exact h2
    · exact fun h => ⟨fun i hi => h i (by omega), h m (by omega)⟩
theorem spErr_zero {m : Nat} {F T : Nat → Int} : spErr m F T = 0 ↔ m ≤ 12 ∧ ∀ i, i < m → spOk F T i = true := by
  unfold spErr
  rw [← spAll_iff]
  split
  · constructor
    · intro h; omega
    · intro h; omega
  · split
    · exact ⟨fun _ => ⟨by omega, by assumption⟩, fun _ => rfl⟩
    · exact ⟨fun h => by omega, fun h => by simp_all⟩
theorem spErr_ways (m : Nat) (F T : Nat → Int) : spErr m F T = 0 ∨ (spErr m F T != 0) = true := by
  unfold spErr
  repeat' split
  all_goals simp

/-- The set of the items below m of which p holds. -/
def pickS (p : Nat → Bool) : Nat → Nat
  | 0 => 0
  | m + 1 => if p m = true then pickS p m ||| 2 ^ m else pickS p m
theorem pickS_bit (p : Nat → Bool) (i : Nat) : ∀ m, (pickS p m).testBit i = (decide (i < m) && p i)
  | 0 => by simp [pickS]
  | m + 1 => by
    rw [pickS]
    have ih := pickS_bit p i m
    by_cases e : m = i
    · subst e
      cases hp : p m
      · simp [ih, hp]
      · simp
    · have : decide (i < m + 1) = decide (i < m) := by simp; omega
      rw [this, ← ih]
      split
      · rw [Nat.testBit_or, Nat.testBit_two_pow]; simp [e]
      · rfl
theorem pickS_lt (p : Nat → Bool) : ∀ m, pickS p m < 2 ^ m
  | 0 => by simp [pickS]
  | m + 1 => by
    have ih := pickS_lt p m
    rw [pickS]
    split
    · exact Nat.or_lt_two_pow (Nat.lt_trans ih (Nat.pow_lt_pow_right (by omega) (by omega))) (Nat.pow_lt_pow_right (by omega) (by omega))
    · exact Nat.lt_trans ih (Nat.pow_lt_pow_right (by omega) (by omega))
theorem pickS_lt16 (p : Nat → Bool) {m : Nat} (hm : m ≤ 12) : pickS p m < 65536 :=
  Nat.lt_of_lt_of_le (pickS_lt p m) (Nat.le_trans (Nat.pow_le_pow_right (by omega) hm) (by decide))
theorem pickS_congr {p q : Nat → Bool} : ∀ {m : Nat}, (∀ i, i < m → p i = q i) → pickS p m = pickS q m
  | 0, _ => rfl
  | m + 1, h => by rw [pickS, pickS, pickS_congr (fun i hi => h i (by omega)), h m (by omega)]

/-- Whom span i precedes. -/
def spRow (m : Nat) (F T : Nat → Int) (i : Nat) : Nat := pickS (fun j => decide (T i < F j)) m
def spRel (m : Nat) (F T : Nat → Int) (i : Nat) : Nat := if i < m then spRow m F T i else 0
theorem spRel_lt (m : Nat) (F T : Nat → Int) (hm : m ≤ 12) (i : Nat) : spRel m F T i < 65536 := by
  unfold spRel
  split
  · exact pickS_lt16 _ hm
  · decide
theorem spRel_bit (m : Nat) (F T : Nat → Int) (i j : Nat) : (spRel m F T i).testBit j = (decide (i < m) && decide (j < m) && decide (T i < F j)) := by
  unfold spRel spRow
  split
  · rename_i h
    rw [pickS_bit]; simp [h]
  · rename_i h
    simp [h]

/-- How many of the first k spans hold the time t. -/
def cntAt (F T : Nat → Int) (t : Int) : Nat → Nat
  | 0 => 0
  | k + 1 => cntAt F T t k + if F k ≤ t ∧ t ≤ T k then 1 else 0
theorem cntAt_le (F T : Nat → Int) (t : Int) : ∀ k, cntAt F T t k ≤ k
  | 0 => Nat.le_refl _
  | k + 1 => by
    have := cntAt_le F T t k
    rw [cntAt]
    split <;> omega
/-- The best time, and how many hold it, behind k rounds. -/
def bestUp (m : Nat) (F T : Nat → Int) : Nat → Int × Nat
  | 0 => (0, 0)
  | k + 1 => if (bestUp m F T k).2 < cntAt F T (F k) m ∨ (cntAt F T (F k) m = (bestUp m F T k).2 ∧ F k < (bestUp m F T k).1) then (F k, cntAt F T (F k) m) else bestUp m F T k
theorem bestUp_le (m : Nat) (F T : Nat → Int) : ∀ k, (bestUp m F T k).2 ≤ m
  | 0 => Nat.zero_le _
  | k + 1 => by
    rw [bestUp]
    split
    · exact cntAt_le _ _ _ _
    · exact bestUp_le m F T k
end Go.Proofs.Ytebcnhnkpmbgdaa
