/-
  Plain: what order.Chains finds: as many chains as items of the widest set. No program.
-/
import Derived.Test.YtfjanniojphdoaaDoorDilPure
import Derived.Test.YtfjanniojphdoaaDoorDilPlace
import Derived.Test.YtfjanniojphdoaaDoorWideMost
import Derived.Test.YtfjanniojphdoaaDoorSpanPure
import Derived.Test.YtfjanniojphdoaaDoorChains
namespace Go.Proofs.YtfjanniojphdoaaDoor
open Go.RowKit
set_option maxRecDepth 20000

/-- The items of a set, one by one. -/
theorem enum_mask (S : Nat) : ∀ m, ∃ g : Nat → Nat, (∀ i, i < card m S → g i < m ∧ S.testBit (g i) = true) ∧ ∀ i j, i < card m S → j < card m S → i ≠ j → g i ≠ g j
  | 0 => ⟨fun _ => 0, fun i hi => by simp [card, sumUp] at hi, fun i j hi => by simp [card, sumUp] at hi⟩
  | m + 1 => by
    obtain ⟨g, h1, h2⟩ := enum_mask S m
    have e : card (m + 1) S = card m S + if S.testBit m = true then 1 else 0 := rfl
    by_cases hb : S.testBit m = true
    · rw [if_pos hb] at e
      rw [e]
      refine ⟨fun i => if i = card m S then m else g i, fun i hi => ?_, fun i j hi hj hij => ?_⟩
      · show (if i = card m S then m else g i) < m + 1 ∧ S.testBit (if i = card m S then m else g i) = true
        by_cases e1 : i = card m S
        · rw [if_pos e1]
          exact ⟨by omega, hb⟩
        · rw [if_neg e1]
          have := h1 i (by omega)
          exact ⟨by omega, this.2⟩
      · show (if i = card m S then m else g i) ≠ (if j = card m S then m else g j)
        by_cases e1 : i = card m S
        · rw [if_pos e1, if_neg (by omega)]
          have := h1 j (by omega)
          omega
        · by_cases e2 : j = card m S
          · rw [if_neg e1, if_pos e2]
            have := h1 i (by omega)
            omega
          · rw [if_neg e1, if_neg e2]
            exact h2 i j (by omega) (by omega) hij
    · rw [if_neg hb] at e
      rw [e]
      exact ⟨g, fun i hi => ⟨by have := h1 i hi; omega, (h1 i hi).2⟩, h2⟩
/-- Unlike items of which p holds are no more than all of them. -/
theorem inj_le {n : Nat} : ∀ M (g : Nat → Nat) (p : Nat → Bool), (∀ i, i < M → g i < n ∧ p (g i) = true) → (∀ i j, i < M → j < M → i ≠ j → g i ≠ g j) → M ≤ sumUp (fun x => if p x = true then 1 else 0) n
  | 0, _, _, _, _ => Nat.zero_le _
  | M + 1, g, p, h1, h2 => by
    have ih := inj_le M g (fun x => p x && decide (x ≠ g M)) (fun i hi => ⟨(h1 i (by omega)).1, by
      have := h2 i M (by omega) (by omega) (by omega)
      simp [(h1 i (by omega)).2, this]⟩) (fun i j hi hj => h2 i j (by omega) (by omega))
    have hlt := sumUp_lt1 (f := fun x => if (p x && decide (x ≠ g M)) = true then 1 else 0) (g := fun x => if p x = true then 1 else 0) (a := g M) (fun i => by
      cases p i
      · simp
      · by_cases e : i = g M <;> simp [e]) (by simp [(h1 M (by omega)).2]) (m := n) (h1 M (by omega)).1
    omega
theorem card_pickD {m : Nat} (p : Nat → Bool) : card m (pickS p m) = sumUp (fun k => if p k = true then 1 else 0) m := by
  unfold card
  have key : ∀ k, k ≤ m → sumUp (fun i => if (pickS p m).testBit i = true then 1 else 0) k = sumUp (fun i => if p i = true then 1 else 0) k := by
    intro k
    induction k with
    | zero => intro _; rfl
    | succ k ih =>
      intro hk
      rw [sumUp, sumUp, ih (by omega)]
      congr 1
      rw [pickS_bit, decide_eq_true (show k < m by omega), Bool.true_and]
  exact key m (Nat.le_refl _)

section
variable {n : Nat} {a : Nat → Nat}
/-- Who is ahead of whom in the closure. -/
def RelC (n : Nat) (c : Nat → Nat) (x y : Nat) : Prop := x < n ∧ y < n ∧ (c x).testBit y = true

theorem no_more' (hn : n ≤ 12) (c : Nat → Nat) (hI : ∀ x, x < n → (c x).testBit x = false) (K : Nat) (hK : ∀ S, S < 2 ^ n → antiUp c S n = true → pop S ≤ K) : ¬ AC (RelC n c) (· < n) (K + 1) := by
  rintro ⟨g, g1, g2⟩
  obtain ⟨p, hp⟩ : ∃ p : Nat → Bool, ∀ x, p x = true ↔ ∃ i, i < K + 1 ∧ g i = x := ⟨fun x => @decide (∃ i, i < K + 1 ∧ g i = x) (Classical.propDecidable _), fun x => @decide_eq_true_iff _ (Classical.propDecidable _)⟩
  have hbit : ∀ x, (pickS p n).testBit x = true ↔ x < n ∧ ∃ i, i < K + 1 ∧ g i = x := fun x => by
    rw [pickS_bit, Bool.and_eq_true, decide_eq_true_iff, hp]
  have hS : pickS p n < 2 ^ n := pickS_lt p n
  have hanti : antiUp c (pickS p n) n = true := (anti_iff c (pickS p n) n).2 (fun i hi hb => by
    apply Nat.eq_of_testBit_eq
    intro y
    rw [Nat.testBit_and, Nat.zero_testBit]
    cases h1 : (c i).testBit y
    · rfl
    cases h2 : (pickS p n).testBit y
    · rfl
    exfalso
    obtain ⟨hin, u, hu, e1⟩ := (hbit i).1 hb
    obtain ⟨hyn, q, hq, e2⟩ := (hbit y).1 h2
    by_cases hpq : u = q
    · subst hpq
      rw [e1] at e2
      subst e2
      rw [hI _ hin] at h1
      cases h1
    · exact (g2 u q hu hq hpq).2 (by rw [e1, e2]; exact ⟨hin, hyn, h1⟩))
  have h1 := hK _ hS hanti
  have h2 : K + 1 ≤ pop (pickS p n) := by
    rw [pop_is (by omega) hS, card_pickD]
    exact inj_le _ g _ (fun i hi => ⟨g1 i hi, (hp (g i)).2 ⟨i, hi, rfl⟩⟩) (fun i j hi hj hij => (g2 i j hi hj hij).1)
  omega
theorem no_more (hn : n ≤ 12) (c : Nat → Nat) (hI : ∀ x, x < n → (c x).testBit x = false) : ¬ AC (RelC n c) (· < n) (pop (wide n c) + 1) :=
  no_more' hn c hI _ (wide_most (c := c) (n := n) (2 ^ n)).2

/-- What Chains finds. -/
structure Found (n K : Nat) (c : Nat → Nat) (nu : Nat → Int) : Prop where
  lt : ∀ i, i < n → ∃ k, k < K ∧ nu i = (k : Int)
  rel : ∀ i j, i < n → j < n → i ≠ j → nu i = nu j → (c i).testBit j = true ∨ (c j).testBit i = true
  last : 0 < K → ∃ i, i < n ∧ nu i = ((K - 1 : Nat) : Int)
  zero : K = 0 → n = 0
theorem chains_found (hg : Good n a) (hy : cyc (clo n a) n = false) : Found n (pop (wide n (clo n a))) (clo n a) (chainsOf n (clo n a)).nu := by
  have hn := hg.le
  have hgc := hg.clo
  obtain ⟨c, hc⟩ : ∃ c, c = clo n a := ⟨_, rfl⟩
  have htr : TransV n c := hc ▸ clo_trans n a
  rw [← hc] at hy hgc ⊢
  have hI : ∀ x, x < n → (c x).testBit x = false := fun x hx => by
    cases e : (c x).testBit x
    · rfl
    · have := (cyc_iff c n).2 ⟨x, hx, e⟩
      rw [hy] at this
      cases this
  obtain ⟨f, f1, f2⟩ := dilworth (n := n) (R := RelC n c) (fun x y z hxy hyz => ⟨hxy.1, hyz.2.1, htr x hxy.1 y hyz.1 hxy.2.2 z hyz.2.2⟩) (fun x h => by
    have := h.2.2
    rw [hI x h.1] at this
    cases this) (meas n (· < n) + 1) (pop (wide n c)) (· < n) (by omega) (fun _ h => h) (no_more hn c hI)
  have hrel : ∀ i j, i < n → (relUp c (rev n c) n i).testBit j = ((c i).testBit j || (rev n c i).testBit j) := fun i j hi => by
    unfold relUp
    rw [if_pos hi, Nat.testBit_or]
  have hrb : ∀ i j, i < n → j < n → (relUp c (rev n c) n i).testBit j = ((c i).testBit j || (c j).testBit i) := fun i j hi hj => by
    rw [hrel i j hi, rev_bit]; simp [hi, hj]
  have hP := placeM_all (rel := relUp c (rev n c) n) (K := pop (wide n c)) (n := n) (fun i hi => by
      unfold relUp
      rw [if_pos hi]
      exact Nat.or_lt_two_pow (n := 16) (hgc.lt i (by omega)) (revs_lt n c 16 i n (by omega))) hn (fun i j hi hj => by rw [hrb i j hi hj, hrb j i hj hi, Bool.or_comm])
    (g := f) (fun i hi => f1 i hi) (fun i j hi hj hij e => by
      rw [hrb i j hi hj, Bool.or_eq_true]
      rcases f2 i j hi hj hij e with h | h
      · exact Or.inl h.2.2
      · exact Or.inr h.2.2)
  change PInv _ _ _ (chainsOf n c).ch (chainsOf n c).nu at hP
  have hcol : ∀ i j, i < n → j < n → i ≠ j → (chainsOf n c).nu i = (chainsOf n c).nu j → (c i).testBit j = true ∨ (c j).testBit i = true := fun i j hi hj hij e => by
    have h1 := hP.good i j hi hj hij e
    rw [hrb i j hi hj, Bool.or_eq_true] at h1
    exact h1
  have hsm := wide_small n c
  have hcard : card n (wide n c) = pop (wide n c) := (pop_is (by omega) hsm).symm
  refine ⟨fun i hi => ?_, hcol, fun hK => ?_, fun hK => ?_⟩
  · obtain ⟨k, hk, e, _⟩ := hP.place i hi
    exact ⟨k, hk, e⟩
  · obtain ⟨g, g1, g2⟩ := enum_mask (wide n c) n
    rw [hcard] at g1 g2
    have hw := (anti_iff c (wide n c) n).1 (wide_most (c := c) (n := n) (2 ^ n)).1
    have hno : ∀ x y, x < n → y < n → (wide n c).testBit x = true → (wide n c).testBit y = true → (c x).testBit y = false := fun x y hx hy' hxb hyb => by
      have h3 := congrArg (fun z => z.testBit y) (hw x hx hxb)
      simp only [Nat.testBit_and, Nat.zero_testBit, hyb, Bool.and_true] at h3
      exact h3
    have hnu : ∀ i, i < pop (wide n c) → ((chainsOf n c).nu (g i)).toNat < pop (wide n c) := fun i hi => by
      obtain ⟨k, hk, e, _⟩ := hP.place (g i) (g1 i hi).1
      rw [e]
      simpa using hk
    obtain ⟨i, hi, e⟩ := all_hit (pop (wide n c)) (fun i => ((chainsOf n c).nu (g i)).toNat) hnu (fun i j hi hj hij e => by
      obtain ⟨k, hk, e1, _⟩ := hP.place (g i) (g1 i hi).1
      obtain ⟨k', hk', e2, _⟩ := hP.place (g j) (g1 j hj).1
      have e' : ((chainsOf n c).nu (g i)).toNat = ((chainsOf n c).nu (g j)).toNat := e
      have hee : (chainsOf n c).nu (g i) = (chainsOf n c).nu (g j) := by omega
      rcases hcol (g i) (g j) (g1 i hi).1 (g1 j hj).1 (g2 i j hi hj hij) hee with h | h
      · rw [hno _ _ (g1 i hi).1 (g1 j hj).1 (g1 i hi).2 (g1 j hj).2] at h
        cases h
      · rw [hno _ _ (g1 j hj).1 (g1 i hi).1 (g1 j hj).2 (g1 i hi).2] at h
        cases h) (pop (wide n c) - 1) (by omega)
    refine ⟨g i, (g1 i hi).1, ?_⟩
    obtain ⟨k, hk, e1, _⟩ := hP.place (g i) (g1 i hi).1
    have e' : ((chainsOf n c).nu (g i)).toNat = pop (wide n c) - 1 := e
    omega
  · rcases Nat.eq_zero_or_pos n with h | h
    · exact h
    · obtain ⟨k, hk, _⟩ := hP.place 0 h
      omega
end
end Go.Proofs.YtfjanniojphdoaaDoor
