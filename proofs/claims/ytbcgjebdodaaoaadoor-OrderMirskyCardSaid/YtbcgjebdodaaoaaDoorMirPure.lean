/-
  Plain: the chain that is found is one, and as long as the longest; the widest set; the levels.
-/
import Derived.Test.YtbcgjebdodaaoaaDoorChain
namespace Go.Proofs.YtbcgjebdodaaoaaDoor
open Go.RowKit

theorem pick_spec {s : Nat} {f : Nat → Nat} {k n : Nat} : ∀ t, t ≤ n → (pick s f k n t < n → s.testBit (pick s f k n t) = true ∧ f (pick s f k n t) = k) ∧ (∀ i, n - t ≤ i → i < n → s.testBit i = true → f i = k → pick s f k n t < n)
  | 0, _ => ⟨fun h => by simp [pick] at h, fun i h1 h2 => by omega⟩
  | t + 1, ht => by
    obtain ⟨ih1, ih2⟩ := pick_spec (s := s) (f := f) (k := k) (n := n) t (by omega)
    rw [pick]
    by_cases hc : s.testBit (n - (t + 1)) = true ∧ f (n - (t + 1)) = k
    · rw [if_pos hc]
      exact ⟨fun _ => hc, fun _ _ _ _ _ => by omega⟩
    · rw [if_neg hc]
      refine ⟨ih1, fun i h1 h2 h3 h4 => ih2 i ?_ h2 h3 h4⟩
      rcases Nat.lt_or_ge i (n - t) with h | h
      · obtain rfl : i = n - (t + 1) := by omega
        exact absurd ⟨h3, h4⟩ hc
      · exact h

/-- What the list of the chain is: items that are there, each ahead of the next. -/
structure Links (n : Nat) (c : Nat → Nat) (s k : Nat) (L : List Int) : Prop where
  length : L.length = k
  first : 0 < k → ∃ p, p < n ∧ L.getD 0 0 = (p : Int) ∧ s.testBit p = true
  next : ∀ m, m + 1 < k → ∃ p q, p < n ∧ q < n ∧ L.getD m 0 = (p : Int) ∧ L.getD (m + 1) 0 = (q : Int) ∧ (c p).testBit q = true
theorem chL_links {n : Nat} {c : Nat → Nat} (h : Strict n c) {f : Nat → Nat} (hf : ∀ i, i < n → f i = len c n i) : ∀ k s, (0 < k → ∃ i, i < n ∧ s.testBit i = true ∧ f i = k) → Links n c s k (chL c f n k s)
  | 0, _, _ => ⟨rfl, fun h => by omega, fun _ h => by omega⟩
  | k + 1, s, hk => by
    obtain ⟨i, hi, hs, hfi⟩ := hk (by omega)
    obtain ⟨sp1, sp2⟩ := pick_spec (s := s) (f := f) (k := k + 1) (n := n) n (Nat.le_refl _)
    have hp := sp2 i (by omega) hi hs hfi
    obtain ⟨hps, hpf⟩ := sp1 hp
    rw [chL, if_pos hp]
    generalize pick s f (k + 1) n n = p at hp hps hpf ⊢
    have ih := chL_links h hf k (c p) (fun h0 => by
      rw [hf p hp] at hpf
      rcases len_is h hp with e | ⟨j, hj, hpj, e⟩
      · omega
      · exact ⟨j, hj, hpj, by rw [hf j hj]; omega⟩)
    refine ⟨by simp [ih.length], fun _ => ⟨p, hp, rfl, hps⟩, fun m hm => ?_⟩
    cases m with
    | zero =>
      obtain ⟨q, hq, e, hpq⟩ := ih.first (by omega)
      exact ⟨p, q, hp, hq, rfl, e, hpq⟩
    | succ m =>
      obtain ⟨x, y, hx, hy, e1, e2, hxy⟩ := ih.next m (by omega)
      exact ⟨x, y, hx, hy, e1, e2, hxy⟩
theorem chain_links {n : Nat} {c : Nat → Nat} (h : Strict n c) : Links n c (2 ^ n - 1) (maxUp (len c n) n) (chL c (rnd c n n) n (maxUp (len c n) n) (2 ^ n - 1)) := by
  refine chL_links h (fun i hi => rnd_len h hi) _ _ (fun h0 => ?_)
  rcases maxUp_is (len c n) n with e | ⟨j, hj, e⟩
  · omega
  · exact ⟨j, hj, all_bit hj, by rw [rnd_len h hj, e]⟩

/-! ### The widest set -/
theorem pop_card : ∀ k x, popN k (x % 2 ^ k) = card k x
  | 0, x => by simp [popN, card, sumUp]
  | k + 1, x => by
    rw [popN_split k 1]
    have e1 : x % 2 ^ (k + 1) % 2 ^ k = x % 2 ^ k := by
      rw [Nat.pow_succ, Nat.mod_mul_right_mod]
    have e2 : x % 2 ^ (k + 1) / 2 ^ k = x / 2 ^ k % 2 := by
      rw [Nat.pow_succ, Nat.mod_mul_right_div_self]
    rw [e1, e2, pop_card k x]
    unfold card
    rw [sumUp]
    congr 1
    rw [Nat.testBit, Nat.shiftRight_eq_div_pow, Nat.and_comm, Nat.and_one_is_mod]
    simp only [popN, Nat.add_zero, Nat.mod_mod]
    rcases Nat.mod_two_eq_zero_or_one (x / 2 ^ k) with e | e <;> simp [e]
theorem card_more {n S : Nat} (hS : S < 2 ^ n) : ∀ m, card (n + m) S = card n S
  | 0 => rfl
  | m + 1 => by
    have h0 : S.testBit (n + m) = false := Nat.testBit_lt_two_pow (Nat.lt_of_lt_of_le hS (Nat.pow_le_pow_right (by omega) (by omega)))
    have ih := card_more hS m
    unfold card at ih ⊢
    rw [show n + (m + 1) = (n + m) + 1 by omega, sumUp, ih, h0]; simp
theorem pop_is {n S : Nat} (hn : n ≤ 16) (hS : S < 2 ^ n) : pop S = card n S := by
  have h16 : S < 2 ^ 16 := Nat.lt_of_lt_of_le hS (Nat.pow_le_pow_right (by omega) hn)
  have h1 := pop_card 16 S
  rw [Nat.mod_eq_of_lt h16] at h1
  have h2 := card_more hS (16 - n)
  rw [show n + (16 - n) = 16 by omega] at h2
  unfold pop
  rw [h1, h2]
theorem items_card (S : Nat) : ∀ n, (itemsUp S n).length = card n S
  | 0 => rfl
  | n + 1 => by
    have ih := items_card S n
    unfold card at ih ⊢
    rw [itemsUp, sumUp, ← ih]
    split <;> simp
theorem anti_iff (c : Nat → Nat) (s : Nat) : ∀ m, antiUp c s m = true ↔ ∀ i, i < m → s.testBit i = true → c i &&& s = 0
  | 0 => by simp [antiUp]
  | m + 1 => by
    rw [antiUp, Bool.and_eq_true, anti_iff c s m]
    constructor
    · rintro ⟨h1, h2⟩ i hi hs
      rcases Nat.lt_or_ge i m with h | h
      · exact h1 i h hs
      · obtain rfl : i = m := by omega
        simpa [hs] using h2
    · intro h
      refine ⟨fun i hi hs => h i (by omega) hs, ?_⟩
      cases hs : s.testBit m
      · rfl
      · simp [h m (by omega) hs]
theorem wide_most {c : Nat → Nat} {n : Nat} : ∀ K, antiUp c (wideUp c n K) n = true ∧ ∀ k, k < K → antiUp c k n = true → pop k ≤ pop (wideUp c n K)
  | 0 => ⟨(anti_iff c 0 n).2 (fun i _ hs => by simp at hs), fun k h => by omega⟩
  | K + 1 => by
    obtain ⟨ih1, ih2⟩ := wide_most (c := c) (n := n) K
    rw [wideUp]
    by_cases hc : cb K (wideUp c n K) = true ∧ antiUp c K n = true
    · rw [if_pos hc]
      have hle : pop (wideUp c n K) ≤ pop K := by
        have := hc.1
        unfold cb at this
        split at this
        · omega
        · have := of_decide_eq_true this; omega
      refine ⟨hc.2, fun k hk ha => ?_⟩
      rcases Nat.lt_or_ge k K with h | h
      · exact Nat.le_trans (ih2 k h ha) hle
      · obtain rfl : k = K := by omega
        exact Nat.le_refl _
    · rw [if_neg hc]
      refine ⟨ih1, fun k hk ha => ?_⟩
      rcases Nat.lt_or_ge k K with h | h
      · exact ih2 k h ha
      · obtain rfl : k = K := by omega
        have hcb : cb k (wideUp c n k) = false := by
          cases hb : cb k (wideUp c n k)
          · rfl
          · exact absurd ⟨hb, ha⟩ hc
        unfold cb at hcb
        split at hcb
        · omega
        · have := of_decide_eq_false hcb; omega

theorem wide_small (n : Nat) (c : Nat → Nat) : wide n c < 2 ^ n := by
  unfold wide
  have h1 := wideUp_lt c n (2 ^ n)
  rcases Nat.lt_or_ge (wideUp c n (2 ^ n)) (2 ^ n) with h | h
  · exact h
  · exfalso
    have key : ∀ K, 0 < K → wideUp c n K < K := fun K => by
      induction K with
      | zero => intro h0; omega
      | succ K ih =>
        intro _
        rw [wideUp]
        split
        · omega
        · by_cases h0 : K = 0
          · subst h0; simp [wideUp]
          · have := ih (by omega); omega
    have := key (2 ^ n) (Nat.two_pow_pos n)
    omega
theorem items_wide {n : Nat} (hn : n ≤ 12) (c : Nat → Nat) : (itemsUp (wide n c) n).length = pop (wide n c) := by
  rw [items_card, pop_is (by omega) (wide_small n c)]

/-! ### Levels -/
def setN (p : Nat → Bool) : Nat → Nat
  | 0 => 0
  | m + 1 => if p m = true then setN p m ||| 2 ^ m else setN p m
theorem setN_bit (p : Nat → Bool) (i : Nat) : ∀ m, (setN p m).testBit i = (decide (i < m) && p i)
  | 0 => by simp [setN]
  | m + 1 => by
    rw [setN]
    have ih := setN_bit p i m
    by_cases e : m = i
    · subst e
      cases hp : p m
      · simp [ih, hp]
      · simp
    · have : decide (i < m + 1) = decide (i < m) := by simp; omega
      rw [this, ← ih]
      split
      · rw [Nat.testBit_or, Nat.testBit_two_pow]; simp [e]
      · rfl
theorem setN_lt (p : Nat → Bool) : ∀ m, setN p m < 2 ^ m
  | 0 => by simp [setN]
  | m + 1 => by
    have ih := setN_lt p m
    rw [setN]
    split
    · exact Nat.or_lt_two_pow (Nat.lt_trans ih (Nat.pow_lt_pow_right (by omega) (by omega))) (Nat.pow_lt_pow_right (by omega) (by omega))
    · exact Nat.lt_trans ih (Nat.pow_lt_pow_right (by omega) (by omega))
theorem sumUp_swap (g : Nat → Nat → Nat) (n : Nat) : ∀ m, sumUp (fun v => sumUp (fun i => g v i) n) m = sumUp (fun i => sumUp (fun v => g v i) m) n
  | 0 => (sumUp_zero (fun _ _ => rfl)).symm
  | m + 1 => by rw [sumUp, sumUp_swap g n m, ← sumUp_add]; rfl
theorem sum_hit {x : Nat} : ∀ {m : Nat}, x < m → sumUp (fun v => if v = x then 1 else 0) m = 1
  | 0, h => by omega
  | m + 1, h => by
    rw [sumUp]
    by_cases e : m = x
    · subst e
      rw [sumUp_zero (fun i hi => if_neg (by omega)), if_pos rfl]
    · rw [sum_hit (show x < m by omega), if_neg e]
theorem sum_ones (n : Nat) : sumUp (fun _ => 1) n = n := by
  induction n with
  | zero => rfl
  | succ m ih => rw [sumUp, ih]
/-- As many as the longest chain, times as many as are apart: no less than all. -/
theorem product_ge {n : Nat} {c : Nat → Nat} (h : Strict n c) (hn : n ≤ 12) : n ≤ maxUp (len c n) n * pop (wide n c) := by
  have hlev : ∀ v, card n (setN (fun i => decide (len c n i = v + 1)) n) ≤ pop (wide n c) := fun v => by
    have hlt := setN_lt (fun i => decide (len c n i = v + 1)) n
    rw [← pop_is (by omega) hlt]
    refine (wide_most (2 ^ n)).2 _ hlt ((anti_iff _ _ _).2 fun i hi hs => ?_)
    rw [setN_bit] at hs
    simp only [Bool.and_eq_true, decide_eq_true_eq] at hs
    apply Nat.eq_of_testBit_eq
    intro j
    rw [Nat.testBit_and, setN_bit, Nat.zero_testBit]
    cases hj : (c i).testBit j
    · rfl
    · have h1 := len_less h hi hj
      have h2 : ¬ len c n j = v + 1 := by omega
      simp [h2]
  have h1 := sumUp_bound (f := fun v => card n (setN (fun i => decide (len c n i = v + 1)) n)) (m := maxUp (len c n) n) (fun v _ => hlev v)
  have h2 : sumUp (fun v => card n (setN (fun i => decide (len c n i = v + 1)) n)) (maxUp (len c n) n) = n := by
    have e : ∀ v, card n (setN (fun i => decide (len c n i = v + 1)) n) = sumUp (fun i => if v = len c n i - 1 then 1 else 0) n := fun v => by
      unfold card
      refine sumUp_congr fun i hi => ?_
      have h1 := len_one h hi
      rw [setN_bit]
      by_cases e : len c n i = v + 1
      · rw [if_pos (by simp [hi, e]), if_pos (by omega)]
      · rw [if_neg (by simp [e]), if_neg (by omega)]
    rw [sumUp_congr (fun v _ => e v), sumUp_swap (fun v i => if v = len c n i - 1 then 1 else 0) n]
    rw [sumUp_congr (g := fun _ => 1) (fun i hi => sum_hit (by
      have h1 := len_one h hi
      have h2 := maxUp_ge (f := len c n) hi
      omega))]
    exact sum_ones n
  rw [h2] at h1
  exact h1
end Go.Proofs.YtbcgjebdodaaoaaDoor
