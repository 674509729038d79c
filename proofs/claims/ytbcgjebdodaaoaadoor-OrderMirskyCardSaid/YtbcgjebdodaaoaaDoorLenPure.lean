/-
  Plain: the length of the longest chain that starts with an item; the rounds that find it; forwards and backwards the longest are as long.
-/
import Derived.Test.YtbcgjebdodaaoaaDoorSzpPure
namespace Go.Proofs.YtbcgjebdodaaoaaDoor
open Go.RowKit

/-- The greatest of f over the j below m that s has; no less than 1 + 0. -/
def rowMax (s : Nat) (f : Nat → Nat) : Nat → Nat
  | 0 => 1
  | m + 1 => if s.testBit m = true then max (rowMax s f m) (f m + 1) else rowMax s f m
theorem rowMax_ge {s : Nat} {f : Nat → Nat} {j : Nat} (h : s.testBit j = true) : ∀ {m : Nat}, j < m → f j + 1 ≤ rowMax s f m
  | 0, hj => by omega
  | m + 1, hj => by
    rw [rowMax]
    by_cases e : j = m
    · subst e; rw [if_pos h]; exact Nat.le_max_right _ _
    · have := rowMax_ge (f := f) h (show j < m by omega)
      split
      · exact Nat.le_trans this (Nat.le_max_left _ _)
      · exact this
theorem rowMax_one (s : Nat) (f : Nat → Nat) : ∀ m, 1 ≤ rowMax s f m
  | 0 => Nat.le_refl _
  | m + 1 => by
    rw [rowMax]
    split
    · exact Nat.le_trans (rowMax_one s f m) (Nat.le_max_left _ _)
    · exact rowMax_one s f m
theorem rowMax_is (s : Nat) (f : Nat → Nat) : ∀ m, rowMax s f m = 1 ∨ ∃ j, j < m ∧ s.testBit j = true ∧ rowMax s f m = f j + 1
  | 0 => .inl rfl
  | m + 1 => by
    rw [rowMax]
    by_cases hb : s.testBit m = true
    · rw [if_pos hb]
      by_cases hle : rowMax s f m ≤ f m + 1
      · exact .inr ⟨m, by omega, hb, by omega⟩
      · rcases rowMax_is s f m with e | ⟨j, hj, hs, e⟩
        · exact .inl (by omega)
        · exact .inr ⟨j, by omega, hs, by omega⟩
    · rw [if_neg hb]
      rcases rowMax_is s f m with e | ⟨j, hj, hs, e⟩
      · exact .inl e
      · exact .inr ⟨j, by omega, hs, e⟩
theorem rowMax_congr {s : Nat} {f g : Nat → Nat} : ∀ {m : Nat}, (∀ j, j < m → s.testBit j = true → f j = g j) → rowMax s f m = rowMax s g m
  | 0, _ => rfl
  | m + 1, h => by
    rw [rowMax, rowMax, rowMax_congr (fun j hj hs => h j (by omega) hs)]
    by_cases hb : s.testBit m = true
    · rw [if_pos hb, if_pos hb, h m (by omega) hb]
    · rw [if_neg hb, if_neg hb]

/-- How many there are in the longest chain from item i on. -/
def len (c : Nat → Nat) (n i : Nat) : Nat := rowMax (c i) (fun j => if _h : c j < c i then len c n j else 0) n
termination_by c i
decreasing_by assumption

section
variable {n : Nat} {c : Nat → Nat}
theorem Strict.less (h : Strict n c) {i j : Nat} (hi : i < n) (hij : (c i).testBit j = true) : c j < c i :=
  strict_lt (t := j) (fun t ht => h.trans i hi j (h.inn i hi j hij) hij t ht) hij (h.irr j (h.inn i hi j hij))
theorem len_eq (h : Strict n c) {i : Nat} (hi : i < n) : len c n i = rowMax (c i) (len c n) n := by
  rw [len]
  refine rowMax_congr fun j _ hij => ?_
  rw [dif_pos (h.less hi hij)]
theorem len_one (h : Strict n c) {i : Nat} (hi : i < n) : 1 ≤ len c n i := by rw [len_eq h hi]; exact rowMax_one _ _ _
theorem len_less (h : Strict n c) {i j : Nat} (hi : i < n) (hij : (c i).testBit j = true) : len c n j + 1 ≤ len c n i := by
  rw [len_eq h hi]
  exact rowMax_ge hij (h.inn i hi j hij)
theorem len_is (h : Strict n c) {i : Nat} (hi : i < n) : len c n i = 1 ∨ ∃ j, j < n ∧ (c i).testBit j = true ∧ len c n i = len c n j + 1 := by
  rw [len_eq h hi]
  exact rowMax_is _ _ _
theorem card_sub {S T t : Nat} (ht : t < n) (h : Sub S T) (hT : T.testBit t = true) (hS : S.testBit t = false) : card n S + 1 ≤ card n T := by
  rw [card_del ht hT]
  refine Nat.succ_le_succ (sumUp_le fun i _ => ?_)
  by_cases hb : S.testBit i = true
  · have hti : t ≠ i := fun e => by rw [e, hb] at hS; cases hS
    rw [if_pos hb, if_pos (by rw [del_ne T hti]; exact h i hb)]
    exact Nat.le_refl _
  · rw [if_neg hb]; exact Nat.zero_le _
theorem len_card (h : Strict n c) : ∀ m i, c i < m → i < n → len c n i ≤ card n (c i) + 1
  | 0, _, h0, _ => by omega
  | m + 1, i, hm, hi => by
    rcases len_is h hi with e | ⟨j, hj, hij, e⟩
    · omega
    · have h1 := len_card h m j (by have := h.less hi hij; omega) hj
      have h2 := card_sub (n := n) (S := c j) (T := c i) hj (fun t ht => h.trans i hi j hj hij t ht) hij (h.irr j hj)
      omega
theorem len_le (h : Strict n c) {i : Nat} (hi : i < n) : len c n i ≤ n := by
  have h1 := len_card h _ i (Nat.lt_succ_self _) hi
  have h2 := card_le n (c i)
  rcases Nat.lt_or_ge (card n (c i)) n with h3 | h3
  · omega
  · have := card_full (Nat.le_antisymm h2 h3) i hi
    rw [h.irr i hi] at this; cases this

/-! ### The rounds -/
def updF (f : Nat → Nat) (i x : Nat) : Nat → Nat := fun j => if j = i then x else f j
/-- Item i, with the first m of the others looked at. -/
def inn (c : Nat → Nat) (i : Nat) (f : Nat → Nat) : Nat → Nat → Nat
  | 0 => updF f i 1
  | m + 1 => if (c i).testBit m = true then updF (inn c i f m) i (max (inn c i f m i) (inn c i f m m + 1)) else inn c i f m
def mid (c : Nat → Nat) (n : Nat) (f : Nat → Nat) : Nat → Nat → Nat
  | 0 => f
  | k + 1 => inn c k (mid c n f k) n
def rnd (c : Nat → Nat) (n : Nat) : Nat → Nat → Nat
  | 0 => fun _ => 0
  | r + 1 => mid c n (rnd c n r) n
theorem inn_is (hirr : ∀ v, v < n → (c v).testBit v = false) {i : Nat} (hi : i < n) (f : Nat → Nat) : ∀ m, inn c i f m = updF f i (rowMax (c i) f m)
  | 0 => rfl
  | m + 1 => by
    rw [inn, inn_is hirr hi f m]
    by_cases hb : (c i).testBit m = true
    · have hne : m ≠ i := fun e => by rw [e, hirr i hi] at hb; cases hb
      rw [if_pos hb, rowMax, if_pos hb]
      funext j
      unfold updF
      by_cases e : j = i
      · simp [e, hne]
      · simp [e]
    · rw [if_neg hb, rowMax, if_neg hb]
/-- After r rounds: no more than it is; and no less than r, or what it is. -/
theorem mid_ok (h : Strict n c) {f : Nat → Nat} {r : Nat} (hf : ∀ j, j < n → f j ≤ len c n j ∧ min r (len c n j) ≤ f j) : ∀ k, k ≤ n → ∀ j, j < n →
    mid c n f k j ≤ len c n j ∧ min r (len c n j) ≤ mid c n f k j ∧ (j < k → min (r + 1) (len c n j) ≤ mid c n f k j)
  | 0, _, j, hj => ⟨(hf j hj).1, (hf j hj).2, fun h => by omega⟩
  | k + 1, hk, j, hj => by
    have ih := mid_ok h hf k (by omega)
    have hkn : k < n := by omega
    rw [mid, inn_is h.irr hkn]
    unfold updF
    by_cases e : j = k
    · subst e
      rw [if_pos rfl]
      have hup : rowMax (c j) (mid c n f j) n ≤ len c n j := by
        rcases rowMax_is (c j) (mid c n f j) n with e | ⟨t, ht, hjt, e⟩
        · rw [e]; exact len_one h hj
        · rw [e]
          exact Nat.le_trans (Nat.succ_le_succ (ih t ht).1) (len_less h hj hjt)
      have hlo : min (r + 1) (len c n j) ≤ rowMax (c j) (mid c n f j) n := by
        rcases len_is h hj with e | ⟨t, ht, hjt, e⟩
        · have := rowMax_one (c j) (mid c n f j) n
          omega
        · have h1 := rowMax_ge (f := mid c n f j) hjt ht
          have h2 := (ih t ht).2.1
          omega
      exact ⟨hup, by omega, fun _ => hlo⟩
    · rw [if_neg e]
      obtain ⟨h1, h2, h3⟩ := ih j hj
      exact ⟨h1, h2, fun hjk => h3 (by omega)⟩
theorem rnd_ok (h : Strict n c) : ∀ r j, j < n → rnd c n r j ≤ len c n j ∧ min r (len c n j) ≤ rnd c n r j
  | 0, j, _ => ⟨Nat.zero_le _, by simp⟩
  | r + 1, j, hj => by
    obtain ⟨h1, _, h3⟩ := mid_ok h (rnd_ok h r) n (Nat.le_refl _) j hj
    exact ⟨h1, h3 hj⟩
theorem rnd_len (h : Strict n c) {j : Nat} (hj : j < n) : rnd c n n j = len c n j := by
  obtain ⟨h1, h2⟩ := rnd_ok h n j hj
  have := len_le h hj
  omega
end

/-! ### Bounds along the way -/
theorem inn_bound {c : Nat → Nat} {i B : Nat} {f : Nat → Nat} (hf : ∀ j, f j ≤ B) : ∀ m j, inn c i f m j ≤ B + 1 + m
  | 0, j => by
    rw [inn]; unfold updF
    have := hf j
    split <;> omega
  | m + 1, j => by
    have ih := inn_bound (c := c) (i := i) hf m
    rw [inn]
    split
    · unfold updF
      have h1 := ih i; have h2 := ih m; have h3 := ih j
      split <;> omega
    · have := ih j; omega
theorem mid_bound {c : Nat → Nat} {n B : Nat} {f : Nat → Nat} (hf : ∀ j, f j ≤ B) : ∀ k j, mid c n f k j ≤ B + k * (n + 1)
  | 0, j => by rw [mid]; have := hf j; omega
  | k + 1, j => by
    rw [mid]
    have := inn_bound (c := c) (i := k) (mid_bound (c := c) (n := n) hf k) n j
    rw [Nat.succ_mul]; omega
theorem rnd_bound {c : Nat → Nat} {n : Nat} : ∀ r j, rnd c n r j ≤ r * (n * (n + 1))
  | 0, _ => Nat.zero_le _
  | r + 1, j => by
    rw [rnd]
    have := mid_bound (c := c) (n := n) (rnd_bound (c := c) (n := n) r) n j
    rw [Nat.succ_mul]; exact this

/-! ### Forwards and backwards -/
theorem len_both {n : Nat} {c b : Nat → Nat} (hc : Strict n c) (hb : Strict n b) (hcb : ∀ i j, i < n → (c i).testBit j = true → (b j).testBit i = true) : ∀ m i, c i < m → i < n → ∃ e, e < n ∧ len c n i + len b n i ≤ len b n e + 1
  | 0, _, h0, _ => by omega
  | m + 1, i, hm, hi => by
    rcases len_is hc hi with e | ⟨j, hj, hij, e⟩
    · exact ⟨i, hi, by omega⟩
    · obtain ⟨x, hx, hl⟩ := len_both hc hb hcb m j (by have := hc.less hi hij; omega) hj
      have := len_less hb hj (hcb i j hi hij)
      exact ⟨x, hx, by omega⟩

/-- The greatest of the first m. -/
def maxUp (f : Nat → Nat) : Nat → Nat
  | 0 => 0
  | m + 1 => max (maxUp f m) (f m)
theorem maxUp_ge {f : Nat → Nat} {j : Nat} : ∀ {m : Nat}, j < m → f j ≤ maxUp f m
  | 0, h => by omega
  | m + 1, h => by
    rw [maxUp]
    by_cases e : j = m
    · subst e; exact Nat.le_max_right _ _
    · exact Nat.le_trans (maxUp_ge (show j < m by omega)) (Nat.le_max_left _ _)
theorem maxUp_le {f : Nat → Nat} {B : Nat} : ∀ {m : Nat}, (∀ j, j < m → f j ≤ B) → maxUp f m ≤ B
  | 0, _ => Nat.zero_le _
  | m + 1, h => by
    rw [maxUp]
    exact Nat.max_le.2 ⟨maxUp_le fun j hj => h j (by omega), h m (by omega)⟩
theorem maxUp_is (f : Nat → Nat) : ∀ m, maxUp f m = 0 ∨ ∃ j, j < m ∧ maxUp f m = f j
  | 0 => .inl rfl
  | m + 1 => by
    rw [maxUp]
    by_cases h : maxUp f m ≤ f m
    · exact .inr ⟨m, by omega, by omega⟩
    · rcases maxUp_is f m with e | ⟨j, hj, e⟩
      · exact .inl (by omega)
      · exact .inr ⟨j, by omega, by omega⟩
theorem maxUp_congr {f g : Nat → Nat} : ∀ {m : Nat}, (∀ j, j < m → f j = g j) → maxUp f m = maxUp g m
  | 0, _ => rfl
  | m + 1, h => by rw [maxUp, maxUp, maxUp_congr (fun j hj => h j (by omega)), h m (by omega)]
theorem long_both {n : Nat} {c : Nat → Nat} (h : Strict n c) : maxUp (len c n) n = maxUp (len (rev n c) n) n := by
  have hr := h.turn
  refine Nat.le_antisymm (maxUp_le fun i hi => ?_) (maxUp_le fun i hi => ?_)
  · obtain ⟨e, he, hl⟩ := len_both h hr (fun i j hi hij => rev_at.2 ⟨hi, h.inn i hi j hij, hij⟩) _ i (Nat.lt_succ_self _) hi
    have h1 := len_one hr hi
    have h2 := maxUp_ge (f := len (rev n c) n) he
    omega
  · obtain ⟨e, he, hl⟩ := len_both hr h (fun i j _ hij => (rev_at.1 hij).2.2) _ i (Nat.lt_succ_self _) hi
    have h1 := len_one h hi
    have h2 := maxUp_ge (f := len c n) he
    omega
end Go.Proofs.YtbcgjebdodaaoaaDoor
