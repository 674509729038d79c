/-
  Plain mathematics of the lowest bit, and of how many bits there are.
-/
import Derived.WalkKit
namespace Go.Proofs.YtcpmhflkooipdaaDoor
open Go.RowKit
set_option maxRecDepth 20000

/-- The place of the lowest bit. -/
def tzN : Nat → Nat → Nat
  | 0, _ => 0
  | f + 1, x => if x % 2 = 1 then 0 else tzN f (x / 2) + 1
def tz (x : Nat) : Nat := tzN 16 x

theorem and_double (a b : Nat) : (2 * a) &&& (2 * b) = 2 * (a &&& b) := by
  apply Nat.eq_of_testBit_eq
  intro i
  cases i with
  | zero => simp [Nat.testBit_zero]
  | succ j =>
    rw [Nat.testBit_succ, Nat.testBit_succ, Nat.and_div_two]
    rw [show 2 * a / 2 = a by omega, show 2 * b / 2 = b by omega, show 2 * (a &&& b) / 2 = a &&& b by omega]
theorem and_odd (a b : Nat) : (2 * a + 1) &&& (2 * b + 1) = 2 * (a &&& b) + 1 := by
  apply Nat.eq_of_testBit_eq
  intro i
  cases i with
  | zero => simp [Nat.testBit_zero]
  | succ j =>
    rw [Nat.testBit_succ, Nat.testBit_succ, Nat.and_div_two]
    rw [show (2 * a + 1) / 2 = a by omega, show (2 * b + 1) / 2 = b by omega, show (2 * (a &&& b) + 1) / 2 = a &&& b by omega]
theorem and_compl (k m : Nat) (h : m < 2 ^ k) : m &&& (2 ^ k - 1 - m) = 0 := by
  apply Nat.eq_of_testBit_eq
  intro i
  rw [show 2 ^ k - 1 - m = 2 ^ k - (m + 1) by omega, Nat.testBit_and, Nat.testBit_two_pow_sub_succ h, Nat.zero_testBit]
  cases m.testBit i <;> simp

theorem low_and : ∀ k x : Nat, 0 < x → x < 2 ^ k → x &&& (2 ^ k - x) = 2 ^ (tzN k x) ∧ tzN k x < k
  | 0, x, h0, h1 => by simp at h1; omega
  | k + 1, x, h0, h1 => by
    have hp : 2 ^ (k + 1) = 2 * 2 ^ k := by rw [Nat.pow_succ]; omega
    unfold tzN
    by_cases ho : x % 2 = 1
    · rw [if_pos ho]
      obtain ⟨m, rfl⟩ : ∃ m, x = 2 * m + 1 := ⟨x / 2, by omega⟩
      have hm : m < 2 ^ k := by omega
      rw [show 2 ^ (k + 1) - (2 * m + 1) = 2 * (2 ^ k - 1 - m) + 1 by omega, and_odd, and_compl k m hm]
      exact ⟨rfl, by omega⟩
    · rw [if_neg ho]
      obtain ⟨m, rfl⟩ : ∃ m, x = 2 * m := ⟨x / 2, by omega⟩
      have hm : m < 2 ^ k := by omega
      obtain ⟨h, hl⟩ := low_and k m (by omega) hm
      rw [show 2 ^ (k + 1) - (2 * m) = 2 * (2 ^ k - m) by omega, and_double, show 2 * m / 2 = m by omega, h]
      exact ⟨by rw [Nat.pow_succ]; omega, by omega⟩

theorem tzN_bit : ∀ k x : Nat, 0 < x → x < 2 ^ k → x.testBit (tzN k x) = true ∧ ∀ i, i < tzN k x → x.testBit i = false
  | 0, x, h0, h1 => by simp at h1; omega
  | k + 1, x, h0, h1 => by
    have hp : 2 ^ (k + 1) = 2 * 2 ^ k := by rw [Nat.pow_succ]; omega
    unfold tzN
    by_cases ho : x % 2 = 1
    · rw [if_pos ho]
      exact ⟨by rw [Nat.testBit_zero]; simpa using ho, fun i hi => by omega⟩
    · rw [if_neg ho]
      obtain ⟨h, hl⟩ := tzN_bit k (x / 2) (by omega) (by omega)
      refine ⟨by rw [Nat.testBit_succ]; exact h, fun i hi => ?_⟩
      cases i with
      | zero => rw [Nat.testBit_zero]; simpa using ho
      | succ j => rw [Nat.testBit_succ]; exact hl j (by omega)

/-- How many of the lowest k bits are set. -/
def popN : Nat → Nat → Nat
  | 0, _ => 0
  | f + 1, x => x % 2 + popN f (x / 2)
def pop (x : Nat) : Nat := popN 16 x

def deb : List Nat := [0, 1, 28, 2, 29, 14, 24, 3, 30, 22, 20, 15, 25, 17, 4, 8, 31, 27, 13, 23, 21, 19, 16, 7, 26, 12, 18, 6, 11, 5, 10, 9]
theorem deb_at : ∀ t, t < 16 → 2 ^ t * 125613361 % 4294967296 / 134217728 < 32 ∧ deb.getD (2 ^ t * 125613361 % 4294967296 / 134217728) 0 = t := by decide

theorem popN_zero : ∀ k, popN k 0 = 0
  | 0 => rfl
  | k + 1 => by unfold popN; rw [popN_zero k]
theorem popN_small : ∀ k j x : Nat, x < 2 ^ k → k ≤ j → popN j x = popN k x
  | 0, j, x, h, _ => by
    have : x = 0 := by simpa using h
    subst this
    rw [popN_zero, popN_zero]
  | k + 1, 0, x, h, hj => by omega
  | k + 1, j + 1, x, h, hj => by
    have hp : 2 ^ (k + 1) = 2 * 2 ^ k := by rw [Nat.pow_succ]; omega
    unfold popN
    rw [popN_small k j (x / 2) (by omega) (by omega)]
theorem popN_split : ∀ k j x : Nat, popN (k + j) x = popN k (x % 2 ^ k) + popN j (x / 2 ^ k)
  | 0, j, x => by simp [popN]
  | k + 1, j, x => by
    have hp : 2 ^ (k + 1) = 2 * 2 ^ k := by rw [Nat.pow_succ]; omega
    rw [show k + 1 + j = (k + j) + 1 by omega]
    unfold popN
    rw [popN_split k j (x / 2)]
    have e1 : x % 2 ^ (k + 1) % 2 = x % 2 := by rw [hp, Nat.mod_mul_right_mod]
    have e2 : x % 2 ^ (k + 1) / 2 = x / 2 % 2 ^ k := by rw [hp, Nat.mod_mul_right_div_self]
    have e3 : x / 2 / 2 ^ k = x / 2 ^ (k + 1) := by rw [Nat.div_div_eq_div_mul, ← hp]
    rw [e1, e2, e3]
    cases j <;> simp [popN] <;> omega
end Go.Proofs.YtcpmhflkooipdaaDoor
