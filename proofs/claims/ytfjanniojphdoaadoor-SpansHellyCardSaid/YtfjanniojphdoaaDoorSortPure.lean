/-
  Plain mathematics of an insertion sort and of leaving out equal neighbours. No Go, no program.
-/
import Derived.WalkKit
namespace Go.Proofs.YtfjanniojphdoaaDoor
open Go.RowKit
set_option maxRecDepth 20000

/-- Places j and j - 1 changed. -/
def swp (f : Nat → Nat) (j : Nat) : Nat → Nat := fun i => if i = j - 1 then f j else if i = j then f (j - 1) else f i
/-- The first n of both are the same ones, in whatever order. -/
structure Same (n : Nat) (f h : Nat → Nat) : Prop where
  to : ∀ i, i < n → ∃ j, j < n ∧ h i = f j
  of : ∀ i, i < n → ∃ j, j < n ∧ f i = h j
  inj : (∀ i j, i < n → j < n → f i = f j → i = j) → ∀ i j, i < n → j < n → h i = h j → i = j
theorem Same.refl (n : Nat) (f : Nat → Nat) : Same n f f := ⟨fun i hi => ⟨i, hi, rfl⟩, fun i hi => ⟨i, hi, rfl⟩, fun h => h⟩
theorem Same.trans {n : Nat} {f g h : Nat → Nat} (a : Same n f g) (b : Same n g h) : Same n f h :=
  ⟨fun i hi => by
    obtain ⟨j, hj, e⟩ := b.to i hi
    obtain ⟨k, hk, e'⟩ := a.to j hj
    exact ⟨k, hk, e.trans e'⟩,
   fun i hi => by
    obtain ⟨j, hj, e⟩ := a.of i hi
    obtain ⟨k, hk, e'⟩ := b.of j hj
    exact ⟨k, hk, e.trans e'⟩,
   fun h => b.inj (a.inj h)⟩
theorem swp_swp (f : Nat → Nat) (j : Nat) : ∀ i, ∃ k, swp f j i = f k ∧ (i = j - 1 → k = j) ∧ (i = j → k = j - 1) ∧ (i ≠ j - 1 → i ≠ j → k = i) := by
  intro i
  unfold swp
  by_cases h1 : i = j - 1
  · exact ⟨j, by rw [if_pos h1], fun _ => rfl, fun h => by omega, fun h => absurd h1 h⟩
  · by_cases h2 : i = j
    · exact ⟨j - 1, by rw [if_neg h1, if_pos h2], fun h => absurd h h1, fun _ => rfl, fun _ h => absurd h2 h⟩
    · exact ⟨i, by rw [if_neg h1, if_neg h2], fun h => absurd h h1, fun h => absurd h h2, fun _ _ => rfl⟩
theorem Same.swp {n j : Nat} (f : Nat → Nat) (h0 : 0 < j) (hj : j < n) : Same n f (swp f j) := by
  have L : Go.Proofs.YtfjanniojphdoaaDoor.swp f j (j - 1) = f j := by unfold Go.Proofs.YtfjanniojphdoaaDoor.swp; rw [if_pos rfl]
  have R : Go.Proofs.YtfjanniojphdoaaDoor.swp f j j = f (j - 1) := by unfold Go.Proofs.YtfjanniojphdoaaDoor.swp; rw [if_neg (by omega), if_pos rfl]
  refine ⟨fun i hi => ?_, fun i hi => ?_, fun h p q hp hq e => ?_⟩
  · obtain ⟨k, e, k1, k2, k3⟩ := swp_swp f j i
    refine ⟨k, ?_, e⟩
    by_cases h1 : i = j - 1
    · have := k1 h1; omega
    · by_cases h2 : i = j
      · have := k2 h2; omega
      · have := k3 h1 h2; omega
  · by_cases h1 : i = j - 1
    · exact ⟨j, hj, by rw [R, h1]⟩
    · by_cases h2 : i = j
      · exact ⟨j - 1, by omega, by rw [L, h2]⟩
      · exact ⟨i, hi, by unfold Go.Proofs.YtfjanniojphdoaaDoor.swp; rw [if_neg h1, if_neg h2]⟩
  · obtain ⟨k, e1, a1, a2, a3⟩ := swp_swp f j p
    obtain ⟨l, e2, b1, b2, b3⟩ := swp_swp f j q
    rw [e1, e2] at e
    have hk : k < n := by
      by_cases h1 : p = j - 1
      · have := a1 h1; omega
      · by_cases h2 : p = j
        · have := a2 h2; omega
        · have := a3 h1 h2; omega
    have hl : l < n := by
      by_cases h1 : q = j - 1
      · have := b1 h1; omega
      · by_cases h2 : q = j
        · have := b2 h2; omega
        · have := b3 h1 h2; omega
    have hkl := h k l hk hl e
    clear e e1 e2 h hp hq
    omega

/-- The first i stand in order. -/
def Srt (key : Nat → Nat) (f : Nat → Nat) (i : Nat) : Prop := ∀ p q, p < q → q < i → key (f p) ≤ key (f q)
/-- The first i + 1 stand in order but for the one at j, which is no more than those behind it. -/
structure Ins (key : Nat → Nat) (f : Nat → Nat) (i j : Nat) : Prop where
  le : j ≤ i
  rest : ∀ p q, p < q → q ≤ i → p ≠ j → q ≠ j → key (f p) ≤ key (f q)
  here : ∀ q, j < q → q ≤ i → key (f j) ≤ key (f q)
theorem Ins.start {key f : Nat → Nat} {i : Nat} (h : Srt key f i) : Ins key f i i :=
  ⟨Nat.le_refl _, fun p q hpq hq hp hq' => h p q hpq (by omega), fun q h1 h2 => by omega⟩
theorem Ins.stop {key f : Nat → Nat} {i j : Nat} (h : Ins key f i j) (hs : j = 0 ∨ key (f (j - 1)) ≤ key (f j)) : Srt key f (i + 1) := by
  intro p q hpq hq
  by_cases h1 : p = j
  · subst h1
    exact h.here q hpq (by omega)
  · by_cases h2 : q = j
    · subst h2
      rcases hs with hs | hs
      · omega
      · by_cases h3 : p = q - 1
        · rw [h3]; exact hs
        · exact Nat.le_trans (h.rest p (q - 1) (by omega) (by omega) h1 (by omega)) hs
    · exact h.rest p q hpq (by omega) h1 h2
theorem Ins.step {key f : Nat → Nat} {i j : Nat} (h : Ins key f i j) (h0 : 0 < j) (hlt : key (f j) < key (f (j - 1))) : Ins key (swp f j) i (j - 1) := by
  have hle := h.le
  have L : swp f j (j - 1) = f j := by unfold swp; rw [if_pos rfl]
  have R : swp f j j = f (j - 1) := by unfold swp; rw [if_neg (by omega), if_pos rfl]
  have E : ∀ i, i ≠ j - 1 → i ≠ j → swp f j i = f i := fun i a b => by unfold swp; rw [if_neg a, if_neg b]
  refine ⟨by omega, fun p q hpq hq hp hq' => ?_, fun q h1 h2 => ?_⟩
  · by_cases h1 : p = j
    · subst h1
      rw [R, E q (by omega) (by omega)]
      exact h.rest (p - 1) q (by omega) hq (by omega) (by omega)
    · by_cases h2 : q = j
      · subst h2
        rw [R, E p (by omega) (by omega)]
        exact h.rest p (q - 1) (by omega) (by omega) h1 (by omega)
      · rw [E p hp h1, E q hq' h2]
        exact h.rest p q hpq hq h1 h2
  · rw [L]
    by_cases h3 : q = j
    · rw [h3, R]; omega
    · rw [E q (by omega) h3]
      exact h.here q (by omega) h2

/-- Of the first m of f the first k of h are left, each once. -/
structure Cmp (n : Nat) (f h : Nat → Nat) (k m : Nat) : Prop where
  pos : 0 < k
  lt : k < m
  le : m ≤ n
  tail : ∀ i, m - 1 ≤ i → i < n → h i = f i
  strict : ∀ p q, p < q → q < k → h p < h q
  last : h (k - 1) = f (m - 1)
  to : ∀ p, p < k → ∃ j, j < m ∧ h p = f j
  of : ∀ j, j < m → ∃ p, p < k ∧ f j = h p
theorem Cmp.start {n k : Nat} {f : Nat → Nat} (h0 : 0 < k) (hk : k < n) (hs : ∀ p q, p < q → q < k → f p < f q) (he : f k = f (k - 1)) : Cmp n f f k (k + 1) :=
  ⟨h0, by omega, by omega, fun _ _ _ => rfl, hs, by rw [Nat.add_sub_cancel, he], fun p hp => ⟨p, by omega, rfl⟩, fun j hj => by
    rcases Nat.lt_or_ge j k with h | h
    · exact ⟨j, h, rfl⟩
    · obtain rfl : j = k := by omega
      exact ⟨j - 1, by omega, he⟩⟩
theorem Cmp.skip {n k m : Nat} {f h : Nat → Nat} (c : Cmp n f h k m) (hm : m < n) (he : f m = f (m - 1)) : Cmp n f h k (m + 1) :=
  ⟨c.pos, by have := c.lt; omega, by omega, fun i h1 h2 => c.tail i (by omega) h2, c.strict, by rw [Nat.add_sub_cancel, he]; exact c.last, fun p hp => by
    obtain ⟨j, hj, e⟩ := c.to p hp
    exact ⟨j, by omega, e⟩, fun j hj => by
    rcases Nat.lt_or_ge j m with h1 | h1
    · exact c.of j h1
    · obtain rfl : j = m := by omega
      exact ⟨k - 1, by have := c.pos; omega, by rw [c.last, he]⟩⟩
theorem Cmp.keep {n k m : Nat} {f h : Nat → Nat} (c : Cmp n f h k m) (hm : m < n) (he : f (m - 1) < f m) : Cmp n f (fun i => if i = k then f m else h i) (k + 1) (m + 1) := by
  have hp := c.pos
  have hl := c.lt
  refine ⟨by omega, by omega, by omega, fun i h1 h2 => ?_, fun p q hpq hq => ?_, ?_, fun p hp' => ?_, fun j hj => ?_⟩
  · show (if i = k then f m else h i) = f i
    rw [if_neg (by omega)]
    exact c.tail i (by omega) h2
  · show (if p = k then f m else h p) < (if q = k then f m else h q)
    rw [if_neg (by omega)]
    by_cases h1 : q = k
    · rw [if_pos h1]
      rcases Nat.lt_or_ge p (k - 1) with h2 | h2
      · exact Nat.lt_trans (c.strict p (k - 1) h2 (by omega)) (by rw [c.last]; exact he)
      · obtain rfl : p = k - 1 := by omega
        rw [c.last]; exact he
    · rw [if_neg h1]
      exact c.strict p q hpq (by omega)
  · show (if k + 1 - 1 = k then f m else h (k + 1 - 1)) = f (m + 1 - 1)
    rw [if_pos (by omega), Nat.add_sub_cancel]
  · show ∃ j, j < m + 1 ∧ (if p = k then f m else h p) = f j
    by_cases h1 : p = k
    · exact ⟨m, by omega, by rw [if_pos h1]⟩
    · rw [if_neg h1]
      obtain ⟨j, hj, e⟩ := c.to p (by omega)
      exact ⟨j, by omega, e⟩
  · show ∃ p, p < k + 1 ∧ f j = (if p = k then f m else h p)
    rcases Nat.lt_or_ge j m with h1 | h1
    · obtain ⟨p, hp', e⟩ := c.of j h1
      exact ⟨p, by omega, by rw [if_neg (by omega)]; exact e⟩
    · obtain rfl : j = m := by omega
      exact ⟨k, by omega, by rw [if_pos rfl]⟩

/-- The first k of h are the values of the first n of b, each once. -/
structure Vals (n : Nat) (b : Nat → Nat) (k : Nat) (h : Nat → Nat) : Prop where
  to : ∀ p, p < k → ∃ j, j < n ∧ h p = b j
  of : ∀ j, j < n → ∃ p, p < k ∧ b j = h p
  inj : ∀ p q, p < k → q < k → h p = h q → p = q
theorem Vals.same {n k : Nat} {b h h' : Nat → Nat} (v : Vals n b k h) (s : Same k h h') : Vals n b k h' :=
  ⟨fun p hp => by
    obtain ⟨q, hq, e⟩ := s.to p hp
    obtain ⟨j, hj, e'⟩ := v.to q hq
    exact ⟨j, hj, e.trans e'⟩,
   fun j hj => by
    obtain ⟨q, hq, e⟩ := v.of j hj
    obtain ⟨p, hp, e'⟩ := s.of q hq
    exact ⟨p, hp, e.trans e'⟩,
   s.inj v.inj⟩
theorem Vals.before {n k : Nat} {b f h : Nat → Nat} (s : Same n b f) (v : Vals n f k h) : Vals n b k h :=
  ⟨fun p hp => by
    obtain ⟨q, hq, e⟩ := v.to p hp
    obtain ⟨j, hj, e'⟩ := s.to q hq
    exact ⟨j, hj, e.trans e'⟩,
   fun j hj => by
    obtain ⟨q, hq, e⟩ := s.of j hj
    obtain ⟨p, hp, e'⟩ := v.of q hq
    exact ⟨p, hp, e.trans e'⟩, v.inj⟩
theorem Vals.of_strict {n : Nat} {f : Nat → Nat} (hs : ∀ p q, p < q → q < n → f p < f q) : Vals n f n f :=
  ⟨fun p hp => ⟨p, hp, rfl⟩, fun p hp => ⟨p, hp, rfl⟩, fun p q hp hq e => by
    rcases Nat.lt_trichotomy p q with h | h | h
    · have := hs p q h hq; omega
    · exact h
    · have := hs q p h hp; omega⟩
theorem Vals.of_cmp {n k : Nat} {f h : Nat → Nat} (c : Cmp n f h k n) : Vals n f k h :=
  ⟨c.to, c.of, fun p q hp hq e => by
    rcases Nat.lt_trichotomy p q with h | h | h
    · have := c.strict p q h hq; omega
    · exact h
    · have := c.strict q p h hp; omega⟩
end Go.Proofs.YtfjanniojphdoaaDoor
