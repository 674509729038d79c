/-
  Plain mathematics for package order: sets as numbers, relations as functions, the closure by Warshall's rounds. No Go, no program.
-/
import Derived.WalkKit
namespace Go.Proofs.Ytndcgliopckllaa
open Go.RowKit
set_option maxRecDepth 20000

/-- One round of the closure, over the items below m alone. -/
def stepV (m : Nat) (a : Nat → Nat) (v : Nat) : Nat → Nat := fun i => if i < m ∧ (a i).testBit v = true then a i ||| a v else a i
/-- k rounds of the closure on n items. -/
def warsh (n : Nat) (a : Nat → Nat) : Nat → Nat → Nat
  | 0 => a
  | k + 1 => stepV n (warsh n a k) k

def bitAt (s i : Nat) : Bool := s.testBit i

/-- Does one of the first m items come back to itself? -/
def cyc (c : Nat → Nat) : Nat → Bool
  | 0 => false
  | m + 1 => cyc c m || (c m).testBit m

theorem stepV_zero (a : Nat → Nat) (v : Nat) : stepV 0 a v = a := by funext i; simp [stepV]

theorem stepV_lt {m : Nat} {a : Nat → Nat} {v B : Nat} (hB : ∀ i, i < 12 → a i < 2 ^ B) (hv : v < 12) : ∀ i, i < 12 → stepV m a v i < 2 ^ B := by
  intro i hi
  unfold stepV
  split
  · exact Nat.or_lt_two_pow (hB i hi) (hB v hv)
  · exact hB i hi

theorem warsh_lt {n : Nat} {a : Nat → Nat} {B : Nat} (hB : ∀ i, i < 12 → a i < 2 ^ B) : ∀ k, k ≤ 12 → ∀ i, i < 12 → warsh n a k i < 2 ^ B
  | 0, _ => hB
  | k + 1, hk => stepV_lt (warsh_lt hB k (by omega)) (by omega)

/-- One step of a round: item m's row. -/
theorem stepV_succ (m : Nat) (a : Nat → Nat) (v : Nat) :
    stepV (m + 1) a v = fun i => if i = m then (if (a m).testBit v = true then a m ||| a v else a m) else stepV m a v i := by
  funext i
  unfold stepV
  by_cases h : i = m
  · subst h; simp
  · simp [h, show i < m + 1 ↔ i < m by omega]

/-- In the midst of a round row m and row v are as they were. -/
theorem stepV_at (m : Nat) (a : Nat → Nat) (v : Nat) : stepV m a v m = a m := by simp [stepV]
theorem stepV_via (m : Nat) (a : Nat → Nat) (v : Nat) : stepV m a v v = a v := by
  unfold stepV; split <;> simp

/-! ### The relation turned round -/
def stepR (m : Nat) (a : Nat → Nat) (i : Nat) (r : Nat → Nat) : Nat → Nat := fun j => if j < m ∧ (a i).testBit j = true then r j ||| 2 ^ i else r j
def revs (n : Nat) (a : Nat → Nat) : Nat → Nat → Nat
  | 0 => fun _ => 0
  | k + 1 => stepR n a k (revs n a k)
/-- Bit i of row j, where bit j of row i was. -/
def rev (n : Nat) (a : Nat → Nat) : Nat → Nat := revs n a n

theorem stepR_zero (a : Nat → Nat) (i : Nat) (r : Nat → Nat) : stepR 0 a i r = r := by funext j; simp [stepR]
theorem stepR_succ (m : Nat) (a : Nat → Nat) (i : Nat) (r : Nat → Nat) :
    stepR (m + 1) a i r = fun j => if j = m then (if (a i).testBit m = true then r m ||| 2 ^ i else r m) else stepR m a i r j := by
  funext j
  unfold stepR
  by_cases h : j = m
  · subst h; simp
  · simp [h, show j < m + 1 ↔ j < m by omega]
theorem stepR_at (m : Nat) (a : Nat → Nat) (i : Nat) (r : Nat → Nat) : stepR m a i r m = r m := by simp [stepR]
theorem stepR_lt {m : Nat} {a : Nat → Nat} {i : Nat} {r : Nat → Nat} {j B : Nat} (h : r j < 2 ^ B) (hi : i < B) : stepR m a i r j < 2 ^ B := by
  unfold stepR
  split
  · exact Nat.or_lt_two_pow h (Nat.pow_lt_pow_right (by omega) hi)
  · exact h
theorem revs_lt (n : Nat) (a : Nat → Nat) (B j : Nat) : ∀ k, k ≤ B → revs n a k j < 2 ^ B
  | 0, _ => Nat.two_pow_pos B
  | k + 1, hk => stepR_lt (revs_lt n a B j k (by omega)) (by omega)

/-! ### What may come next -/
def rdyUp (b : Nat → Nat) (d : Nat) : Nat → Nat
  | 0 => 0
  | m + 1 => if d.testBit m = false ∧ b m &&& (65535 - d) = 0 then rdyUp b d m ||| 2 ^ m else rdyUp b d m
theorem rdyUp_lt (b : Nat → Nat) (d B : Nat) : ∀ m, m ≤ B → rdyUp b d m < 2 ^ B
  | 0, _ => Nat.two_pow_pos B
  | m + 1, hm => by
    unfold rdyUp
    split
    · exact Nat.or_lt_two_pow (rdyUp_lt b d B m (by omega)) (Nat.pow_lt_pow_right (by omega) (by omega))
    · exact rdyUp_lt b d B m (by omega)


theorem revs_bit (n : Nat) (a : Nat → Nat) (x t : Nat) : ∀ k, (revs n a k x).testBit t = (decide (t < k) && decide (x < n) && (a t).testBit x)
  | 0 => by simp [revs]
  | k + 1 => by
    show (stepR n a k (revs n a k) x).testBit t = _
    have ih := revs_bit n a x t k
    unfold stepR
    by_cases hc : x < n ∧ (a k).testBit x = true
    · rw [if_pos hc, Nat.testBit_or, ih, Nat.testBit_two_pow]
      by_cases e : k = t
      · subst e; simp [hc]
      · simp [e, show t < k + 1 ↔ t < k by omega]
    · rw [if_neg hc, ih]
      by_cases e : k = t
      · subst e
        by_cases hx : x < n
        · have : (a k).testBit x = false := by
            cases h : (a k).testBit x
            · rfl
            · exact absurd ⟨hx, h⟩ hc
          simp [this]
        · simp [hx]
      · simp [show t < k + 1 ↔ t < k by omega]
theorem rev_bit (n : Nat) (a : Nat → Nat) (x t : Nat) : (rev n a x).testBit t = (decide (t < n) && decide (x < n) && (a t).testBit x) := revs_bit n a x t n
theorem rev_at {n : Nat} {a : Nat → Nat} {x t : Nat} : (rev n a x).testBit t = true ↔ t < n ∧ x < n ∧ (a t).testBit x = true := by
  rw [rev_bit]; simp [and_assoc]

theorem cyc_iff (c : Nat → Nat) : ∀ m, cyc c m = true ↔ ∃ v, v < m ∧ (c v).testBit v = true
  | 0 => by simp [cyc]
  | m + 1 => by
    rw [cyc, Bool.or_eq_true, cyc_iff c m]
    constructor
    · rintro (⟨v, hv, h⟩ | h)
      · exact ⟨v, by omega, h⟩
      · exact ⟨m, by omega, h⟩
    · rintro ⟨v, hv, h⟩
      rcases Nat.lt_or_ge v m with h' | h'
      · exact .inl ⟨v, h', h⟩
      · obtain rfl : v = m := by omega
        exact .inr h


def sumUp (f : Nat → Nat) : Nat → Nat
  | 0 => 0
  | m + 1 => sumUp f m + f m
def card (n S : Nat) : Nat := sumUp (fun i => if S.testBit i = true then 1 else 0) n
end Go.Proofs.Ytndcgliopckllaa
