/-
  Plain mathematics of Make: sets in a chain, their numbers; From and To by how many stand ahead. No Go, no program.
-/
import Derived.Test.YtfjanniojphdoaaDoorSortPure
import Derived.Test.YtfjanniojphdoaaDoorBitsPure
namespace Go.Proofs.YtfjanniojphdoaaDoor
open Go.RowKit
set_option maxRecDepth 20000

/-- Each of x is of y. -/
def Subs (x y : Nat) : Prop := ∀ t, x.testBit t = true → y.testBit t = true
theorem Subs.refl (x : Nat) : Subs x x := fun _ h => h
theorem Subs.trans {x y z : Nat} (a : Subs x y) (b : Subs y z) : Subs x z := fun t h => b t (a t h)
theorem Subs.half {x y : Nat} (h : Subs x y) : Subs (x / 2) (y / 2) := fun t ht => by
  rw [← Nat.testBit_succ] at ht ⊢
  exact h _ ht
theorem Subs.low {x y : Nat} (h : Subs x y) : x % 2 ≤ y % 2 := by
  have h0 := h 0
  rw [Nat.testBit_zero, Nat.testBit_zero, decide_eq_true_iff, decide_eq_true_iff] at h0
  omega
theorem popN_sub : ∀ k x y : Nat, Subs x y → popN k x ≤ popN k y ∧ (popN k x = popN k y → x % 2 ^ k = y % 2 ^ k)
  | 0, x, y, _ => ⟨Nat.le_refl _, fun _ => by rw [Nat.pow_zero, Nat.mod_one, Nat.mod_one]⟩
  | k + 1, x, y, h => by
    obtain ⟨h1, h2⟩ := popN_sub k _ _ h.half
    have h3 := h.low
    unfold popN
    refine ⟨by omega, fun e => ?_⟩
    have h4 := h2 (by omega)
    rw [Nat.pow_succ, Nat.mul_comm, Nat.mod_mul, Nat.mod_mul, h4]
    omega
theorem pop_sub {x y : Nat} (h : Subs x y) : pop x ≤ pop y := (popN_sub 16 x y h).1
theorem pop_eq {x y : Nat} (h : Subs x y) (hx : x < 65536) (hy : y < 65536) (e : pop y ≤ pop x) : x = y := by
  have h2 := (popN_sub 16 x y h).2 (Nat.le_antisymm (popN_sub 16 x y h).1 e)
  rwa [Nat.mod_eq_of_lt hx, Nat.mod_eq_of_lt hy] at h2
theorem pop_lt {x y : Nat} (h : Subs x y) (hx : x < 65536) (hy : y < 65536) (hne : x ≠ y) : pop x < pop y := by
  rcases Nat.lt_or_ge (pop x) (pop y) with h1 | h1
  · exact h1
  · exact absurd (pop_eq h hx hy h1) hne

/-- Does each of the first m hold the one before it? -/
def incUp (h : Nat → Nat) : Nat → Bool
  | 0 => true
  | m + 1 => incUp h m && (decide (m = 0) || decide (h (m - 1) &&& (65535 - h m) = 0))
theorem incUp_iff (h : Nat → Nat) : ∀ m, incUp h m = true ↔ ∀ p, 0 < p → p < m → h (p - 1) &&& (65535 - h p) = 0
  | 0 => ⟨fun _ p _ hp => by omega, fun _ => rfl⟩
  | m + 1 => by
    rw [incUp, Bool.and_eq_true, incUp_iff h m, Bool.or_eq_true, decide_eq_true_iff, decide_eq_true_iff]
    constructor
    · rintro ⟨h1, h2⟩ p hp0 hp
      rcases Nat.lt_or_ge p m with h3 | h3
      · exact h1 p hp0 h3
      · obtain rfl : p = m := by omega
        rcases h2 with h2 | h2
        · omega
        · exact h2
    · intro h1
      refine ⟨fun p hp0 hp => h1 p hp0 (by omega), ?_⟩
      rcases Nat.eq_zero_or_pos m with h2 | h2
      · exact Or.inl h2
      · exact Or.inr (h1 m h2 (by omega))

/-- The sets, by their sizes: each one holds the one before it, and they are unlike. -/
structure Chained (k : Nat) (h : Nat → Nat) : Prop where
  lt : ∀ p, p < k → h p < 65536
  sub : ∀ p q, p ≤ q → q < k → Subs (h p) (h q)
  more : ∀ p q, p < q → q < k → pop (h p) < pop (h q)

/-- The largest number of a set without the item; -1 if all have it. -/
def lastW (h : Nat → Nat) (i : Nat) : Nat → Int
  | 0 => -1
  | m + 1 => if (h m).testBit i = true then lastW h i m else (m : Int)
theorem lastW_lt (h : Nat → Nat) (i : Nat) : ∀ m, lastW h i m < m
  | 0 => by rw [lastW]; decide
  | m + 1 => by
    rw [lastW]
    have := lastW_lt h i m
    split <;> omega
theorem lastW_ge (h : Nat → Nat) (i : Nat) : ∀ m, -1 ≤ lastW h i m
  | 0 => by rw [lastW]; decide
  | m + 1 => by
    rw [lastW]
    have := lastW_ge h i m
    split <;> omega
/-- In a chain: whoever is of set q is so just if q is behind the last one without it. -/
theorem lastW_iff {k : Nat} {h : Nat → Nat} (c : Chained k h) (i : Nat) : ∀ m, m ≤ k → ∀ q, q < m → ((h q).testBit i = true ↔ lastW h i m < q)
  | 0, _, q, hq => by omega
  | m + 1, hm, q, hq => by
    rw [lastW]
    by_cases hb : (h m).testBit i = true
    · rw [if_pos hb]
      rcases Nat.lt_or_ge q m with h1 | h1
      · exact lastW_iff c i m (by omega) q h1
      · obtain rfl : q = m := by omega
        have := lastW_lt h i q
        exact ⟨fun _ => this, fun _ => hb⟩
    · rw [if_neg hb]
      constructor
      · intro h1
        exact absurd (c.sub q m (by omega) (by omega) i h1) hb
      · intro h1
        omega

/-- How many of the first m. -/
def cntP (P : Nat → Bool) : Nat → Nat
  | 0 => 0
  | m + 1 => cntP P m + if P m = true then 1 else 0
def anyP (P : Nat → Bool) : Nat → Bool
  | 0 => false
  | m + 1 => anyP P m || P m
theorem anyP_iff (P : Nat → Bool) : ∀ m, anyP P m = true ↔ ∃ i, i < m ∧ P i = true
  | 0 => ⟨fun h => (by cases h), fun ⟨i, hi, _⟩ => (by omega)⟩
  | m + 1 => by
    rw [anyP, Bool.or_eq_true, anyP_iff P m]
    constructor
    · rintro (⟨i, hi, h⟩ | h)
      · exact ⟨i, by omega, h⟩
      · exact ⟨m, by omega, h⟩
    · rintro ⟨i, hi, h⟩
      rcases Nat.lt_or_ge i m with h1 | h1
      · exact Or.inl ⟨i, h1, h⟩
      · obtain rfl : i = m := by omega
        exact Or.inr h
theorem cntP_congr {P Q : Nat → Bool} : ∀ {m : Nat}, (∀ i, i < m → P i = Q i) → cntP P m = cntP Q m
  | 0, _ => rfl
  | m + 1, h => by rw [cntP, cntP, cntP_congr (fun i hi => h i (by omega)), h m (by omega)]
theorem cntP_or {P Q : Nat → Bool} : ∀ {m : Nat}, (∀ i, i < m → P i = true → Q i = false) → cntP (fun i => P i || Q i) m = cntP P m + cntP Q m
  | 0, _ => rfl
  | m + 1, h => by
    rw [cntP, cntP, cntP, cntP_or (fun i hi => h i (by omega))]
    have h1 := h m (by omega)
    cases hP : P m <;> cases hQ : Q m <;> simp_all <;> omega
theorem cntP_false : ∀ m, cntP (fun _ => false) m = 0
  | 0 => rfl
  | m + 1 => by rw [cntP, cntP_false m]; rfl
theorem cntP_one (x : Nat) (b : Bool) : ∀ m, cntP (fun s => decide (x = s) && b) m = if x < m ∧ b = true then 1 else 0
  | 0 => by rw [cntP, if_neg (by omega)]
  | m + 1 => by
    rw [cntP, cntP_one x b m]
    by_cases h1 : x = m
    · cases b <;> simp [h1]
    · have h2 : (x < m + 1) = (x < m) := propext (by omega)
      simp [h1, h2]
theorem cntP_before (p : Nat) : ∀ k, cntP (fun q => decide (q < p)) k = min k p
  | 0 => by rw [cntP, Nat.zero_min]
  | k + 1 => by
    rw [cntP, cntP_before p k]
    by_cases h : k < p
    · rw [if_pos (decide_eq_true h)]; omega
    · rw [if_neg (by simpa using h)]; omega

/-- Numbers that grow: how many below m are among them is how many of them are below m. -/
theorem cntP_among {z : Nat → Nat} (P : Nat → Bool) (m : Nat) : ∀ k, (∀ p q, p < q → q < k → z p < z q) → cntP (fun s => anyP (fun q => decide (z q = s) && P q) k) m = cntP (fun q => decide (z q < m) && P q) k
  | 0, _ => by
    simp only [anyP]
    exact cntP_false m
  | k + 1, hz => by
    have ih := cntP_among P m k (fun p q h1 h2 => hz p q h1 (by omega))
    have e : cntP (fun s => anyP (fun q => decide (z q = s) && P q) (k + 1)) m = cntP (fun s => anyP (fun q => decide (z q = s) && P q) k || (decide (z k = s) && P k)) m := rfl
    rw [e, cntP_or (fun s _ hs => ?_), ih, cntP_one, cntP]
    · cases hP : P k <;> simp
    · rw [anyP_iff] at hs
      obtain ⟨q, hq, hs⟩ := hs
      rw [Bool.and_eq_true, decide_eq_true_iff] at hs
      have := hz q k hq (by omega)
      simp; omega

/-- Is there an item with s ahead of it? -/
def szIs (n : Nat) (b : Nat → Nat) (s : Nat) : Bool := anyP (fun j => decide (pop (b j) = s)) n
/-- Do all that item i stands ahead of have more than s ahead of them? -/
def allMore (n : Nat) (b : Nat → Nat) (i s : Nat) : Bool := !anyP (fun j => (b j).testBit i && decide (pop (b j) ≤ s)) n
def frUp (n : Nat) (b : Nat → Nat) (i m : Nat) : Nat := cntP (fun s => szIs n b s && decide (s < pop (b i))) m
def toUp (n : Nat) (b : Nat → Nat) (i m : Nat) : Nat := cntP (fun s => szIs n b s && (decide (0 < s) && allMore n b i s)) m

section
variable {n k : Nat} {b h : Nat → Nat}
theorem chained_of (hb : ∀ j, j < n → b j < 65536) (v : Vals n b k h) (hi : incUp h k = true) : Chained k h := by
  have hlt : ∀ p, p < k → h p < 65536 := fun p hp => by
    obtain ⟨j, hj, e⟩ := v.to p hp
    rw [e]; exact hb j hj
  rw [incUp_iff] at hi
  have hsub : ∀ d p, p + d < k → Subs (h p) (h (p + d)) := by
    intro d
    induction d with
    | zero => exact fun p _ => Subs.refl _
    | succ d ih =>
      intro p hp
      refine (ih p (by omega)).trans ?_
      intro t ht
      have h1 := hi (p + d + 1) (by omega) (by omega)
      rw [Nat.add_sub_cancel] at h1
      have h2 := congrArg (fun x => x.testBit t) h1
      simp only [Nat.testBit_and, Nat.zero_testBit, ht, Bool.true_and] at h2
      have h3 : (65535 - h (p + d + 1)).testBit t = (decide (t < 16) && !(h (p + d + 1)).testBit t) := by
        have e : 65535 - h (p + d + 1) = 2 ^ 16 - (h (p + d + 1) + 1) := by have := hlt (p + d + 1) (by omega); omega
        rw [e, Nat.testBit_two_pow_sub_succ (show h (p + d + 1) < 2 ^ 16 from hlt (p + d + 1) (by omega))]
      have h4 : t < 16 := by
        rcases Nat.lt_or_ge t 16 with h | h'
        · exact h
        · rw [Nat.testBit_lt_two_pow (Nat.lt_of_lt_of_le (show h (p + d) < 2 ^ 16 from hlt (p + d) (by omega)) (Nat.pow_le_pow_right (show 0 < 2 by decide) h'))] at ht
          cases ht
      rw [h3] at h2
      show (h (p + d + 1)).testBit t = true
      simpa [h4] using h2
  refine ⟨hlt, fun p q hpq hq => ?_, fun p q hpq hq => ?_⟩
  · obtain ⟨d, rfl⟩ : ∃ d, q = p + d := ⟨q - p, by omega⟩
    exact hsub d p hq
  · obtain ⟨d, rfl⟩ : ∃ d, q = p + d := ⟨q - p, by omega⟩
    exact pop_lt (hsub d p hq) (hlt p (by omega)) (hlt _ hq) (fun e => by have := v.inj p (p + d) (by omega) hq e; omega)

/-- If the sets are in a chain the test holds. -/
theorem inc_of (hb : ∀ j, j < n → b j < 65536) (v : Vals n b k h) (hs : Srt pop h k) (hc : ∀ i j, i < n → j < n → Subs (b i) (b j) ∨ Subs (b j) (b i)) : incUp h k = true := by
  rw [incUp_iff]
  intro p hp0 hp
  obtain ⟨i, hi, e1⟩ := v.to (p - 1) (by omega)
  obtain ⟨j, hj, e2⟩ := v.to p hp
  have hsub : Subs (h (p - 1)) (h p) := by
    rcases hc i j hi hj with h1 | h1
    · rw [e1, e2]; exact h1
    · have h2 := hs (p - 1) p (by omega) hp
      rw [e1, e2] at h2
      have h3 := pop_eq h1 (hb j hj) (hb i hi) h2
      have := v.inj (p - 1) p (by omega) hp (by rw [e1, e2, h3])
      omega
  apply Nat.eq_of_testBit_eq
  intro t
  rw [Nat.testBit_and, Nat.zero_testBit]
  cases ht : (h (p - 1)).testBit t
  · rfl
  · have h3 : (65535 - h p).testBit t = (decide (t < 16) && !(h p).testBit t) := by
      have hlt : h p < 65536 := by rw [e2]; exact hb j hj
      have e : 65535 - h p = 2 ^ 16 - (h p + 1) := by omega
      rw [e, Nat.testBit_two_pow_sub_succ (show h p < 2 ^ 16 from hlt)]
    rw [h3, hsub t ht]
    simp
theorem Chained.all (c : Chained k h) (v : Vals n b k h) : ∀ i j, i < n → j < n → Subs (b i) (b j) ∨ Subs (b j) (b i) := by
  intro i j hi hj
  obtain ⟨p, hp, e1⟩ := v.of i hi
  obtain ⟨q, hq, e2⟩ := v.of j hj
  rw [e1, e2]
  rcases Nat.le_total p q with h1 | h1
  · exact Or.inl (c.sub p q h1 hq)
  · exact Or.inr (c.sub q p h1 hp)

/-- From, by how many stand ahead. -/
theorem from_is (c : Chained k h) (v : Vals n b k h) {N : Nat} (hN : ∀ j, j < n → pop (b j) < N) {i p : Nat} (hp : p < k) (e : h p = b i) : frUp n b i N = p := by
  have e1 : ∀ s, s < N → (szIs n b s && decide (s < pop (b i))) = anyP (fun q => decide (pop (h q) = s) && decide (q < p)) k := by
    intro s _
    rw [Bool.eq_iff_iff, Bool.and_eq_true, decide_eq_true_iff, anyP_iff, szIs, anyP_iff]
    constructor
    · rintro ⟨⟨j, hj, h1⟩, h2⟩
      rw [decide_eq_true_iff] at h1
      obtain ⟨q, hq, h3⟩ := v.of j hj
      refine ⟨q, hq, ?_⟩
      rw [Bool.and_eq_true, decide_eq_true_iff, decide_eq_true_iff, ← h3]
      refine ⟨h1, ?_⟩
      rcases Nat.lt_or_ge q p with h4 | h4
      · exact h4
      · have := pop_sub (c.sub p q h4 hq)
        rw [e, ← h3] at this
        omega
    · rintro ⟨q, hq, h1⟩
      rw [Bool.and_eq_true, decide_eq_true_iff, decide_eq_true_iff] at h1
      obtain ⟨j, hj, h2⟩ := v.to q hq
      refine ⟨⟨j, hj, by rw [decide_eq_true_iff, ← h2]; exact h1.1⟩, ?_⟩
      have := c.more q p h1.2 hp
      rw [← e, ← h1.1]
      exact this
  have e2 : ∀ q, q < k → (decide (pop (h q) < N) && decide (q < p)) = decide (q < p) := by
    intro q hq
    obtain ⟨j, hj, h2⟩ := v.to q hq
    rw [h2, decide_eq_true (hN j hj), Bool.true_and]
  unfold frUp
  rw [cntP_congr e1, cntP_among _ _ k c.more, cntP_congr e2, cntP_before]
  omega
theorem cntP_upto (L : Int) (hL : -1 ≤ L) : ∀ k : Nat, L < k → cntP (fun q => decide (0 < q) && decide ((q : Int) ≤ L)) k = L.toNat
  | 0, h => by rw [cntP]; omega
  | k + 1, h => by
    rw [cntP]
    by_cases h1 : L < k
    · rw [cntP_upto L hL k h1]
      have : decide ((k : Int) ≤ L) = false := by rw [decide_eq_false_iff_not]; omega
      simp [this]
    · have hk : L = k := by omega
      subst hk
      have e : cntP (fun q => decide (0 < q) && decide ((q : Int) ≤ (k : Int))) k = cntP (fun q => decide (0 < q) && decide (q < k)) k := cntP_congr fun i hi => by
        rw [Bool.eq_iff_iff]; simp; omega
      rw [e]
      clear h1 h e hL
      have key : ∀ m, m ≤ k → cntP (fun q => decide (0 < q) && decide (q < k)) m = m - 1 := by
        intro m
        induction m with
        | zero => intro _; rfl
        | succ m ih =>
          intro hm
          rw [cntP, ih (by omega)]
          by_cases h0 : m = 0
          · subst h0; rfl
          · have h1 : decide (0 < m) = true := decide_eq_true (by omega)
            have h2 : decide (m < k) = true := decide_eq_true (by omega)
            rw [h1, h2]
            simp
            omega
      rw [key k (Nat.le_refl _)]
      by_cases h0 : k = 0
      · subst h0; rfl
      · have h1 : decide (0 < k) = true := decide_eq_true (by omega)
        rw [h1]
        simp
        omega
/-- To, by how many stand ahead of those that it precedes. -/
theorem to_is (c : Chained k h) (v : Vals n b k h) (h0 : 0 < k → h 0 = 0) {N : Nat} (hN : ∀ j, j < n → pop (b j) < N) (i : Nat) (hge : 0 ≤ lastW h i k) : (toUp n b i N : Int) = lastW h i k := by
  have e1 : ∀ s, s < N → (szIs n b s && (decide (0 < s) && allMore n b i s)) = anyP (fun q => decide (pop (h q) = s) && (decide (0 < q) && decide ((q : Int) ≤ lastW h i k))) k := by
    intro s _
    rw [Bool.eq_iff_iff, Bool.and_eq_true, Bool.and_eq_true, decide_eq_true_iff, anyP_iff, szIs, anyP_iff, allMore, Bool.not_eq_true']
    have hall : (anyP (fun j => (b j).testBit i && decide (pop (b j) ≤ s)) n = false) ↔ ∀ j, j < n → (b j).testBit i = true → s < pop (b j) := by
      rw [← Bool.not_eq_true, anyP_iff]
      constructor
      · intro h1 j hj h2
        rcases Nat.lt_or_ge s (pop (b j)) with h3 | h3
        · exact h3
        · exact absurd ⟨j, hj, by rw [h2, decide_eq_true h3]; rfl⟩ h1
      · rintro h1 ⟨j, hj, h2⟩
        rw [Bool.and_eq_true, decide_eq_true_iff] at h2
        have := h1 j hj h2.1
        omega
    rw [hall]
    constructor
    · rintro ⟨⟨j, hj, h1⟩, h2, h3⟩
      rw [decide_eq_true_iff] at h1
      obtain ⟨q, hq, h4⟩ := v.of j hj
      refine ⟨q, hq, ?_⟩
      rw [Bool.and_eq_true, Bool.and_eq_true, decide_eq_true_iff, decide_eq_true_iff, decide_eq_true_iff, ← h4]
      refine ⟨h1, ?_, ?_⟩
      · rcases Nat.eq_zero_or_pos q with h5 | h5
        · subst h5
          rw [h4, h0 hq] at h1
          have : pop 0 = 0 := by decide
          omega
        · exact h5
      · rcases Int.lt_or_le (lastW h i k) q with h5 | h5
        · have h6 := (lastW_iff c i k (Nat.le_refl _) q hq).2 h5
          rw [← h4] at h6
          have := h3 j hj h6
          omega
        · exact h5
    · rintro ⟨q, hq, h1⟩
      rw [Bool.and_eq_true, Bool.and_eq_true, decide_eq_true_iff, decide_eq_true_iff, decide_eq_true_iff] at h1
      obtain ⟨h1, h2, h3⟩ := h1
      obtain ⟨j, hj, h4⟩ := v.to q hq
      refine ⟨⟨j, hj, by rw [decide_eq_true_iff, ← h4]; exact h1⟩, ?_, fun j' hj' h5 => ?_⟩
      · have := c.more 0 q h2 hq
        omega
      · obtain ⟨q', hq', h6⟩ := v.of j' hj'
        rw [h6] at h5 ⊢
        have h7 := (lastW_iff c i k (Nat.le_refl _) q' hq').1 h5
        rw [← h1]
        exact c.more q q' (by omega) hq'
  have e2 : ∀ q, q < k → (decide (pop (h q) < N) && (decide (0 < q) && decide ((q : Int) ≤ lastW h i k))) = (decide (0 < q) && decide ((q : Int) ≤ lastW h i k)) := by
    intro q hq
    obtain ⟨j, hj, h2⟩ := v.to q hq
    rw [h2, decide_eq_true (hN j hj), Bool.true_and]
  unfold toUp
  rw [cntP_congr e1, cntP_among _ _ k c.more, cntP_congr e2, cntP_upto _ (lastW_ge h i k) k (lastW_lt h i k)]
  omega
end
end Go.Proofs.YtfjanniojphdoaaDoor
