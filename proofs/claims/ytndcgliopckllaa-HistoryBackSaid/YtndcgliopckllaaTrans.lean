/-
  Plain: the closure is transitive, has all that was there, and closing it once more changes nothing.
-/
import Derived.Test.YtndcgliopckllaaPure
namespace Go.Proofs.Ytndcgliopckllaa
open Go.RowKit
set_option maxRecDepth 20000

/-- What stands ahead of v stands ahead of all that v stands ahead of. -/
def TransV (n : Nat) (c : Nat → Nat) : Prop := ∀ i, i < n → ∀ v, v < n → (c i).testBit v = true → ∀ j, (c v).testBit j = true → (c i).testBit j = true

theorem stepV_bit (n : Nat) (a : Nat → Nat) (v i j : Nat) (hi : i < n) : (stepV n a v i).testBit j = ((a i).testBit j || ((a i).testBit v && (a v).testBit j)) := by
  unfold stepV
  by_cases h : (a i).testBit v = true
  · rw [if_pos ⟨hi, h⟩, Nat.testBit_or, h]; rfl
  · rw [if_neg (fun k => h k.2)]
    have : (a i).testBit v = false := by simpa using h
    rw [this]; simp

/-- Behind k rounds one may go through the items below k. -/
theorem warsh_trans (n : Nat) (a : Nat → Nat) : ∀ k, k ≤ n → ∀ i, i < n → ∀ v, v < k → ((warsh n a k i).testBit v = true) → ∀ j, (warsh n a k v).testBit j = true → (warsh n a k i).testBit j = true
  | 0, _ => fun _ _ v hv => by omega
  | k + 1, hk => by
    have ih := warsh_trans n a k (by omega)
    intro i hi v hv hiv j hvj
    change (stepV n (warsh n a k) k i).testBit v = true at hiv
    change (stepV n (warsh n a k) k v).testBit j = true at hvj
    show (stepV n (warsh n a k) k i).testBit j = true
    rw [stepV_bit n _ k _ _ hi] at hiv ⊢
    rw [stepV_bit n _ k _ _ (by omega)] at hvj
    simp only [Bool.or_eq_true, Bool.and_eq_true] at hiv hvj ⊢
    rcases Nat.lt_or_ge v k with hvk | hvk
    · rcases hiv with h1 | ⟨h1, h2⟩
      · rcases hvj with h3 | ⟨h3, h4⟩
        · exact .inl (ih i hi v hvk h1 j h3)
        · exact .inr ⟨ih i hi v hvk h1 k h3, h4⟩
      · rcases hvj with h3 | ⟨h3, h4⟩
        · exact .inr ⟨h1, ih k (by omega) v hvk h2 j h3⟩
        · exact .inr ⟨h1, h4⟩
    · obtain rfl : v = k := by omega
      have hik : (warsh n a v i).testBit v = true := by
        rcases hiv with h1 | ⟨h1, _⟩ <;> exact h1
      have hkj : (warsh n a v v).testBit j = true := by
        rcases hvj with h3 | ⟨_, h4⟩
        · exact h3
        · exact h4
      exact .inr ⟨hik, hkj⟩

theorem warsh_has (n : Nat) (a : Nat → Nat) (i j : Nat) (h : (a i).testBit j = true) : ∀ k, (warsh n a k i).testBit j = true
  | 0 => h
  | k + 1 => by
    show (stepV n (warsh n a k) k i).testBit j = true
    unfold stepV
    split
    · rw [Nat.testBit_or, warsh_has n a i j h k]; rfl
    · exact warsh_has n a i j h k

theorem warsh_still {n : Nat} {c : Nat → Nat} (h : TransV n c) : ∀ k, k ≤ n → warsh n c k = c
  | 0, _ => rfl
  | k + 1, hk => by
    show stepV n (warsh n c k) k = c
    rw [warsh_still h k (by omega)]
    funext i
    unfold stepV
    split
    · next hi =>
      apply Nat.eq_of_testBit_eq
      intro j
      rw [Nat.testBit_or]
      cases hj : (c i).testBit j
      · cases hk' : (c k).testBit j
        · rfl
        · rw [h i hi.1 k (by omega) hi.2 j hk'] at hj; cases hj
      · rfl
    · rfl

/-- Nothing but the first n items comes up, if so it was. -/
theorem warsh_in {n : Nat} {a : Nat → Nat} (h : ∀ i, i < n → ∀ j, (a i).testBit j = true → j < n) : ∀ k, k ≤ n → ∀ i, i < n → ∀ j, (warsh n a k i).testBit j = true → j < n
  | 0, _ => h
  | k + 1, hk => fun i hi j hj => by
    change (stepV n (warsh n a k) k i).testBit j = true at hj
    rw [stepV_bit n _ k _ _ hi] at hj
    simp only [Bool.or_eq_true, Bool.and_eq_true] at hj
    rcases hj with h1 | ⟨_, h2⟩
    · exact warsh_in h k (by omega) i hi j h1
    · exact warsh_in h k (by omega) k (by omega) j h2
theorem warsh_out {n : Nat} {a : Nat → Nat} (i : Nat) (hi : n ≤ i) : ∀ k, warsh n a k i = a i
  | 0 => rfl
  | k + 1 => by
    show stepV n (warsh n a k) k i = a i
    unfold stepV
    rw [if_neg (fun h => by omega)]
    exact warsh_out i hi k
end Go.Proofs.Ytndcgliopckllaa
