/-
  Plain: the set that order.Apart finds is the widest one.
-/
import Derived.Test.YtfjanniojphdoaaDoorApart
namespace Go.Proofs.YtfjanniojphdoaaDoor
open Go.RowKit
set_option maxRecDepth 20000

/-! ### The widest set -/
theorem pop_card : ∀ k x, popN k (x % 2 ^ k) = card k x
  | 0, x => by simp [popN, card, sumUp]
  | k + 1, x => by
    rw [popN_split k 1]
    have e1 : x % 2 ^ (k + 1) % 2 ^ k = x % 2 ^ k := by
      rw [Nat.pow_succ, Nat.mod_mul_right_mod]
    have e2 : x % 2 ^ (k + 1) / 2 ^ k = x / 2 ^ k % 2 := by
      rw [Nat.pow_succ, Nat.mod_mul_right_div_self]
    rw [e1, e2, pop_card k x]
    unfold card
    rw [sumUp]
    congr 1
    rw [Nat.testBit, Nat.shiftRight_eq_div_pow, Nat.and_comm, Nat.and_one_is_mod]
    simp only [popN, Nat.add_zero, Nat.mod_mod]
    rcases Nat.mod_two_eq_zero_or_one (x / 2 ^ k) with e | e <;> simp [e]
theorem card_more {n S : Nat} (hS : S < 2 ^ n) : ∀ m, card (n + m) S = card n S
  | 0 => rfl
  | m + 1 => by
    have h0 : S.testBit (n + m) = false := Nat.testBit_lt_two_pow (Nat.lt_of_lt_of_le hS (Nat.pow_le_pow_right (by omega) (by omega)))
    have ih := card_more hS m
    unfold card at ih ⊢
    rw [show n + (m + 1) = (n + m) + 1 by omega, sumUp, ih, h0]; simp
theorem pop_is {n S : Nat} (hn : n ≤ 16) (hS : S < 2 ^ n) : pop S = card n S := by
  have h16 : S < 2 ^ 16 := Nat.lt_of_lt_of_le hS (Nat.pow_le_pow_right (by omega) hn)
  have h1 := pop_card 16 S
  rw [Nat.mod_eq_of_lt h16] at h1
  have h2 := card_more hS (16 - n)
  rw [show n + (16 - n) = 16 by omega] at h2
  unfold pop
  rw [h1, h2]
theorem items_card (S : Nat) : ∀ n, (itemsUp S n).length = card n S
  | 0 => rfl
  | n + 1 => by
    have ih := items_card S n
    unfold card at ih ⊢
    rw [itemsUp, sumUp, ← ih]
    split <;> simp
theorem anti_iff (c : Nat → Nat) (s : Nat) : ∀ m, antiUp c s m = true ↔ ∀ i, i < m → s.testBit i = true → c i &&& s = 0
  | 0 => by simp [antiUp]
  | m + 1 => by
    rw [antiUp, Bool.and_eq_true, anti_iff c s m]
    constructor
    · rintro ⟨h1, h2⟩ i hi hs
      rcases Nat.lt_or_ge i m with h | h
      · exact h1 i h hs
      · obtain rfl : i = m := by omega
        simpa [hs] using h2
    · intro h
      refine ⟨fun i hi hs => h i (by omega) hs, ?_⟩
      cases hs : s.testBit m
      · rfl
      · simp [h m (by omega) hs]
theorem wide_most {c : Nat → Nat} {n : Nat} : ∀ K, antiUp c (wideUp c n K) n = true ∧ ∀ k, k < K → antiUp c k n = true → pop k ≤ pop (wideUp c n K)
  | 0 => ⟨(anti_iff c 0 n).2 (fun i _ hs => by simp at hs), fun k h => by omega⟩
  | K + 1 => by
    obtain ⟨ih1, ih2⟩ := wide_most (c := c) (n := n) K
    rw [wideUp]
    by_cases hc : cb K (wideUp c n K) = true ∧ antiUp c K n = true
    · rw [if_pos hc]
      have hle : pop (wideUp c n K) ≤ pop K := by
        have := hc.1
        unfold cb at this
        split at this
        · omega
        · have := of_decide_eq_true this; omega
      refine ⟨hc.2, fun k hk ha => ?_⟩
      rcases Nat.lt_or_ge k K with h | h
      · exact Nat.le_trans (ih2 k h ha) hle
      · obtain rfl : k = K := by omega
        exact Nat.le_refl _
    · rw [if_neg hc]
      refine ⟨ih1, fun k hk ha => ?_⟩
      rcases Nat.lt_or_ge k K with h | h
      · exact ih2 k h ha
      · obtain rfl : k = K := by omega
        have hcb : cb k (wideUp c n k) = false := by
          cases hb : cb k (wideUp c n k)
          · rfl
          · exact absurd ⟨hb, ha⟩ hc
        unfold cb at hcb
        split at hcb
        · omega
        · have := of_decide_eq_false hcb; omega

theorem wide_small (n : Nat) (c : Nat → Nat) : wide n c < 2 ^ n := by
  unfold wide
  have h1 := wideUp_lt c n (2 ^ n)
  rcases Nat.lt_or_ge (wideUp c n (2 ^ n)) (2 ^ n) with h | h
  · exact h
  · exfalso
    have key : ∀ K, 0 < K → wideUp c n K < K := fun K => by
      induction K with
      | zero => intro h0; omega
      | succ K ih =>
        intro _
        rw [wideUp]
        split
        · omega
        · by_cases h0 : K = 0
          · subst h0; simp [wideUp]
          · have := ih (by omega); omega
    have := key (2 ^ n) (Nat.two_pow_pos n)
    omega
theorem items_wide {n : Nat} (hn : n ≤ 12) (c : Nat → Nat) : (itemsUp (wide n c) n).length = pop (wide n c) := by
  rw [items_card, pop_is (by omega) (wide_small n c)]
end Go.Proofs.YtfjanniojphdoaaDoor
