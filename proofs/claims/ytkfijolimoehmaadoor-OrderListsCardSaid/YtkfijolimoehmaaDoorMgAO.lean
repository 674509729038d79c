/-
  Joined by a program out of: Dil, Fin.
-/
import Derived.Test.YtkfijolimoehmaaDoorMgAM
import Derived.Test.YtkfijolimoehmaaDoorMgAF
import Derived.Test.YtkfijolimoehmaaDoorMgAI
import Derived.Test.YtkfijolimoehmaaDoorMgAE
import Derived.Test.YtkfijolimoehmaaDoorMgAN
import Derived.Test.YtkfijolimoehmaaDoorMgAC

/-
  Plain: what order.Chains finds: as many chains as items of the widest set. No program.
-/
namespace Go.Proofs.YtkfijolimoehmaaDoor
open Go.RowKit
set_option maxRecDepth 20000

/-- The items of a set, one by one. -/
theorem enum_mask (S : Nat) : ∀ m, ∃ g : Nat → Nat, (∀ i, i < card m S → g i < m ∧ S.testBit (g i) = true) ∧ ∀ i j, i < card m S → j < card m S → i ≠ j → g i ≠ g j
  | 0 => ⟨fun _ => 0, fun i hi => by simp [card, sumUp] at hi, fun i j hi => by simp [card, sumUp] at hi⟩
  | m + 1 => by
    obtain ⟨g, h1, h2⟩ := enum_mask S m
    have e : card (m + 1) S = card m S + if S.testBit m = true then 1 else 0 := rfl
    by_cases hb : S.testBit m = true
    · rw [if_pos hb] at e
      rw [e]
      refine ⟨fun i => if i = card m S then m else g i, fun i hi => ?_, fun i j hi hj hij => ?_⟩
      · show (if i = card m S then m else g i) < m + 1 ∧ S.testBit (if i = card m S then m else g i) = true
        by_cases e1 : i = card m S
        · rw [if_pos e1]
          exact ⟨by omega, hb⟩
        · rw [if_neg e1]
          have := h1 i (by omega)
          exact ⟨by omega, this.2⟩
      · show (if i = card m S then m else g i) ≠ (if j = card m S then m else g j)
        by_cases e1 : i = card m S
        · rw [if_pos e1, if_neg (by omega)]
          have := h1 j (by omega)
          omega
        · by_cases e2 : j = card m S
          · rw [if_neg e1, if_pos e2]
            have := h1 i (by omega)
            omega
          · rw [if_neg e1, if_neg e2]
            exact h2 i j (by omega) (by omega) hij
    · rw [if_neg hb] at e
      rw [e]
      exact ⟨g, fun i hi => ⟨by have := h1 i hi; omega, (h1 i hi).2⟩, h2⟩
/-- Unlike items of which p holds are no more than all of them. -/
theorem inj_le {n : Nat} : ∀ M (g : Nat → Nat) (p : Nat → Bool), (∀ i, i < M → g i < n ∧ p (g i) = true) → (∀ i j, i < M → j < M → i ≠ j → g i ≠ g j) → M ≤ sumUp (fun x => if p x = true then 1 else 0) n
  | 0, _, _, _, _ => Nat.zero_le _
  | M + 1, g, p, h1, h2 => by
    have ih := inj_le M g (fun x => p x && decide (x ≠ g M)) (fun i hi => ⟨(h1 i (by omega)).1, by
      have := h2 i M (by omega) (by omega) (by omega)
      simp [(h1 i (by omega)).2, this]⟩) (fun i j hi hj => h2 i j (by omega) (by omega))
    have hlt := sumUp_lt1 (f := fun x => if (p x && decide (x ≠ g M)) = true then 1 else 0) (g := fun x => if p x = true then 1 else 0) (a := g M) (fun i => by
      cases p i
      · simp
      · by_cases e : i = g M <;> simp [e]) (by simp [(h1 M (by omega)).2]) (m := n) (h1 M (by omega)).1
    omega
theorem card_pickD {m : Nat} (p : Nat → Bool) : card m (pickS p m) = sumUp (fun k => if p k = true then 1 else 0) m := by
  unfold card
  have key : ∀ k, k ≤ m → sumUp (fun i => if (pickS p m).testBit i = true then 1 else 0) k = sumUp (fun i => if p i = true then 1 else 0) k := by
    intro k
    induction k with
    | zero => intro _; rfl
    | succ k ih =>
      intro hk
      rw [sumUp, sumUp, ih (by omega)]
      congr 1
      rw [pickS_bit, decide_eq_true (show k < m by omega), Bool.true_and]
  exact key m (Nat.le_refl _)

section
variable {n : Nat} {a : Nat → Nat}
/-- Who is ahead of whom in the closure. -/
def RelC (n : Nat) (c : Nat → Nat) (x y : Nat) : Prop := x < n ∧ y < n ∧ (c x).testBit y = true

theorem no_more' (hn : n ≤ 12) (c : Nat → Nat) (hI : ∀ x, x < n → (c x).testBit x = false) (K : Nat) (hK : ∀ S, S < 2 ^ n → antiUp c S n = true → pop S ≤ K) : ¬ AC (RelC n c) (· < n) (K + 1) := by
  rintro ⟨g, g1, g2⟩
  obtain ⟨p, hp⟩ : ∃ p : Nat → Bool, ∀ x, p x = true ↔ ∃ i, i < K + 1 ∧ g i = x := ⟨fun x => @decide (∃ i, i < K + 1 ∧ g i = x) (Classical.propDecidable _), fun x => @decide_eq_true_iff _ (Classical.propDecidable _)⟩
  have hbit : ∀ x, (pickS p n).testBit x = true ↔ x < n ∧ ∃ i, i < K + 1 ∧ g i = x := fun x => by
    rw [pickS_bit, Bool.and_eq_true, decide_eq_true_iff, hp]
  have hS : pickS p n < 2 ^ n := pickS_lt p n
  have hanti : antiUp c (pickS p n) n = true := (anti_iff c (pickS p n) n).2 (fun i hi hb => by
    apply Nat.eq_of_testBit_eq
    intro y
    rw [Nat.testBit_and, Nat.zero_testBit]
    cases h1 : (c i).testBit y
    · rfl
    cases h2 : (pickS p n).testBit y
    · rfl
    exfalso
    obtain ⟨hin, u, hu, e1⟩ := (hbit i).1 hb
    obtain ⟨hyn, q, hq, e2⟩ := (hbit y).1 h2
    by_cases hpq : u = q
    · subst hpq
      rw [e1] at e2
      subst e2
      rw [hI _ hin] at h1
      cases h1
    · exact (g2 u q hu hq hpq).2 (by rw [e1, e2]; exact ⟨hin, hyn, h1⟩))
  have h1 := hK _ hS hanti
  have h2 : K + 1 ≤ pop (pickS p n) := by
    rw [pop_is (by omega) hS, card_pickD]
    exact inj_le _ g _ (fun i hi => ⟨g1 i hi, (hp (g i)).2 ⟨i, hi, rfl⟩⟩) (fun i j hi hj hij => (g2 i j hi hj hij).1)
  omega
theorem no_more (hn : n ≤ 12) (c : Nat → Nat) (hI : ∀ x, x < n → (c x).testBit x = false) : ¬ AC (RelC n c) (· < n) (pop (wide n c) + 1) :=
  no_more' hn c hI _ (wide_most (c := c) (n := n) (2 ^ n)).2

/-- What Chains finds. -/
structure Found (n K : Nat) (c : Nat → Nat) (nu : Nat → Int) : Prop where
  lt : ∀ i, i < n → ∃ k, k < K ∧ nu i = (k : Int)
  rel : ∀ i j, i < n → j < n → i ≠ j → nu i = nu j → (c i).testBit j = true ∨ (c j).testBit i = true
  last : 0 < K → ∃ i, i < n ∧ nu i = ((K - 1 : Nat) : Int)
  zero : K = 0 → n = 0
theorem chains_found (hg : Good n a) (hy : cyc (clo n a) n = false) : Found n (pop (wide n (clo n a))) (clo n a) (chainsOf n (clo n a)).nu := by
  have hn := hg.le
  have hgc := hg.clo
  obtain ⟨c, hc⟩ : ∃ c, c = clo n a := ⟨_, rfl⟩
  have htr : TransV n c := hc ▸ clo_trans n a
  rw [← hc] at hy hgc ⊢
  have hI : ∀ x, x < n → (c x).testBit x = false := fun x hx => by
    cases e : (c x).testBit x
    · rfl
    · have := (cyc_iff c n).2 ⟨x, hx, e⟩
      rw [hy] at this
      cases this
  obtain ⟨f, f1, f2⟩ := dilworth (n := n) (R := RelC n c) (fun x y z hxy hyz => ⟨hxy.1, hyz.2.1, htr x hxy.1 y hyz.1 hxy.2.2 z hyz.2.2⟩) (fun x h => by
    have := h.2.2
    rw [hI x h.1] at this
    cases this) (meas n (· < n) + 1) (pop (wide n c)) (· < n) (by omega) (fun _ h => h) (no_more hn c hI)
  have hrel : ∀ i j, i < n → (relUp c (rev n c) n i).testBit j = ((c i).testBit j || (rev n c i).testBit j) := fun i j hi => by
    unfold relUp
    rw [if_pos hi, Nat.testBit_or]
  have hrb : ∀ i j, i < n → j < n → (relUp c (rev n c) n i).testBit j = ((c i).testBit j || (c j).testBit i) := fun i j hi hj => by
    rw [hrel i j hi, rev_bit]; simp [hi, hj]
  have hP := placeM_all (rel := relUp c (rev n c) n) (K := pop (wide n c)) (n := n) (fun i hi => by
      unfold relUp
      rw [if_pos hi]
      exact Nat.or_lt_two_pow (n := 16) (hgc.lt i (by omega)) (revs_lt n c 16 i n (by omega))) hn (fun i j hi hj => by rw [hrb i j hi hj, hrb j i hj hi, Bool.or_comm])
    (g := f) (fun i hi => f1 i hi) (fun i j hi hj hij e => by
      rw [hrb i j hi hj, Bool.or_eq_true]
      rcases f2 i j hi hj hij e with h | h
      · exact Or.inl h.2.2
      · exact Or.inr h.2.2)
  change PInv _ _ _ (chainsOf n c).ch (chainsOf n c).nu at hP
  have hcol : ∀ i j, i < n → j < n → i ≠ j → (chainsOf n c).nu i = (chainsOf n c).nu j → (c i).testBit j = true ∨ (c j).testBit i = true := fun i j hi hj hij e => by
    have h1 := hP.good i j hi hj hij e
    rw [hrb i j hi hj, Bool.or_eq_true] at h1
    exact h1
  have hsm := wide_small n c
  have hcard : card n (wide n c) = pop (wide n c) := (pop_is (by omega) hsm).symm
  refine ⟨fun i hi => ?_, hcol, fun hK => ?_, fun hK => ?_⟩
  · obtain ⟨k, hk, e, _⟩ := hP.place i hi
    exact ⟨k, hk, e⟩
  · obtain ⟨g, g1, g2⟩ := enum_mask (wide n c) n
    rw [hcard] at g1 g2
    have hw := (anti_iff c (wide n c) n).1 (wide_most (c := c) (n := n) (2 ^ n)).1
    have hno : ∀ x y, x < n → y < n → (wide n c).testBit x = true → (wide n c).testBit y = true → (c x).testBit y = false := fun x y hx hy' hxb hyb => by
      have h3 := congrArg (fun z => z.testBit y) (hw x hx hxb)
      simp only [Nat.testBit_and, Nat.zero_testBit, hyb, Bool.and_true] at h3
      exact h3
    have hnu : ∀ i, i < pop (wide n c) → ((chainsOf n c).nu (g i)).toNat < pop (wide n c) := fun i hi => by
      obtain ⟨k, hk, e, _⟩ := hP.place (g i) (g1 i hi).1
      rw [e]
      simpa using hk
    obtain ⟨i, hi, e⟩ := all_hit (pop (wide n c)) (fun i => ((chainsOf n c).nu (g i)).toNat) hnu (fun i j hi hj hij e => by
      obtain ⟨k, hk, e1, _⟩ := hP.place (g i) (g1 i hi).1
      obtain ⟨k', hk', e2, _⟩ := hP.place (g j) (g1 j hj).1
      have e' : ((chainsOf n c).nu (g i)).toNat = ((chainsOf n c).nu (g j)).toNat := e
      have hee : (chainsOf n c).nu (g i) = (chainsOf n c).nu (g j) := by omega
      rcases hcol (g i) (g j) (g1 i hi).1 (g1 j hj).1 (g2 i j hi hj hij) hee with h | h
      · rw [hno _ _ (g1 i hi).1 (g1 j hj).1 (g1 i hi).2 (g1 j hj).2] at h
        cases h
      · rw [hno _ _ (g1 j hj).1 (g1 i hi).1 (g1 j hj).2 (g1 i hi).2] at h
        cases h) (pop (wide n c) - 1) (by omega)
    refine ⟨g i, (g1 i hi).1, ?_⟩
    obtain ⟨k, hk, e1, _⟩ := hP.place (g i) (g1 i hi).1
    have e' : ((chainsOf n c).nu (g i)).toNat = pop (wide n c) - 1 := e
    omega
  · rcases Nat.eq_zero_or_pos n with h | h
    · exact h
    · obtain ⟨k, hk, _⟩ := hP.place 0 h
      omega
end
end Go.Proofs.YtkfijolimoehmaaDoor

/-
  Plain: in how many ways the items of a set can be the first ones: by the item that comes last. And that the table holds it.
-/
namespace Go.Proofs.YtkfijolimoehmaaDoor
open Go.RowKit
set_option maxRecDepth 20000

/-! ### A set less one item -/
def del (S i : Nat) : Nat := S ^^^ 2 ^ i
theorem del_bit (S i j : Nat) : (del S i).testBit j = (S.testBit j ^^ decide (i = j)) := by
  unfold del
  rw [Nat.testBit_xor, Nat.testBit_two_pow]
theorem del_self {S i : Nat} (h : S.testBit i = true) : (del S i).testBit i = false := by rw [del_bit, h]; simp
theorem del_ne (S : Nat) {i j : Nat} (h : i ≠ j) : (del S i).testBit j = S.testBit j := by rw [del_bit]; simp [h]
theorem del_sub {S i j : Nat} (h : S.testBit i = true) (hj : (del S i).testBit j = true) : S.testBit j = true := by
  by_cases e : i = j
  · subst e; exact h
  · rwa [del_ne S e] at hj
theorem del_lt {S i : Nat} (h : S.testBit i = true) : del S i < S := by
  have e : S &&& del S i = del S i := by
    apply Nat.eq_of_testBit_eq
    intro j
    rw [Nat.testBit_and]
    cases hj : (del S i).testBit j
    · simp
    · rw [del_sub h hj]; rfl
  have hle : S &&& del S i ≤ S := Nat.and_le_left
  rw [e] at hle
  rcases Nat.lt_or_ge (del S i) S with hlt | hge
  · exact hlt
  · have h' := h
    rw [← Nat.le_antisymm hle hge, del_self h] at h'
    cases h'
theorem or_del {S i : Nat} (h : S.testBit i = true) : del S i ||| 2 ^ i = S := by
  apply Nat.eq_of_testBit_eq
  intro j
  rw [Nat.testBit_or, del_bit, Nat.testBit_two_pow]
  by_cases e : i = j
  · subst e; simp [h]
  · simp [e]
theorem del_or {d i : Nat} (h : d.testBit i = false) : del (d ||| 2 ^ i) i = d := by
  apply Nat.eq_of_testBit_eq
  intro j
  rw [del_bit, Nat.testBit_or, Nat.testBit_two_pow]
  by_cases e : i = j
  · subst e; simp [h]
  · simp [e]
theorem del_inj {S i j : Nat} (h : del S i = del S j) : i = j := by
  have := congrArg (fun t => t.testBit i) h
  simp only [del_bit] at this
  by_cases e : i = j
  · exact e
  · simp [show ¬ j = i from fun k => e k.symm] at this

/-! ### Sums -/
theorem sumUp_congr {f g : Nat → Nat} : ∀ {m : Nat}, (∀ i, i < m → f i = g i) → sumUp f m = sumUp g m
  | 0, _ => rfl
  | m + 1, h => by rw [sumUp, sumUp, sumUp_congr (fun i hi => h i (by omega)), h m (by omega)]
theorem sumUp_add (f g : Nat → Nat) : ∀ m, sumUp (fun i => f i + g i) m = sumUp f m + sumUp g m
  | 0 => rfl
  | m + 1 => by rw [sumUp, sumUp, sumUp, sumUp_add f g m]; omega
theorem sumUp_zero {f : Nat → Nat} : ∀ {m : Nat}, (∀ i, i < m → f i = 0) → sumUp f m = 0
  | 0, _ => rfl
  | m + 1, h => by rw [sumUp, sumUp_zero (fun i hi => h i (by omega)), h m (by omega)]
theorem sumUp_ne {f : Nat → Nat} {m : Nat} (h : sumUp f m ≠ 0) : ∃ i, i < m ∧ f i ≠ 0 := by
  apply Classical.byContradiction
  intro k
  exact h (sumUp_zero fun i hi => Classical.byContradiction fun e => k ⟨i, hi, e⟩)
theorem sumUp_one {f g : Nat → Nat} {j v : Nat} (hj : f j = g j + v) : ∀ {m : Nat}, j < m → (∀ i, i < m → i ≠ j → f i = g i) → sumUp f m = sumUp g m + v
  | 0, h, _ => by omega
  | m + 1, h, k => by
    rw [sumUp, sumUp]
    by_cases e : j = m
    · subst e
      rw [sumUp_congr (fun i hi => k i (by omega) (by omega)), hj]; omega
    · rw [sumUp_one hj (by omega) (fun i hi hn => k i (by omega) hn), k m (by omega) (fun x => e x.symm)]; omega
theorem sumUp_le {f g : Nat → Nat} : ∀ {m : Nat}, (∀ i, i < m → f i ≤ g i) → sumUp f m ≤ sumUp g m
  | 0, _ => Nat.le_refl _
  | m + 1, h => Nat.add_le_add (sumUp_le fun i hi => h i (by omega)) (h m (by omega))

/-! ### The orders of a set -/
def fin (b : Nat → Nat) (n S : Nat) : Nat :=
  if S = 0 then 1 else sumUp (fun i => if _h : S.testBit i = true then (if b i &&& (65535 - del S i) = 0 then fin b n (del S i) else 0) else 0) n
termination_by S
decreasing_by exact del_lt (by assumption)

/-- Those in which item i comes last. -/
def lastly (b : Nat → Nat) (n S i : Nat) : Nat := if S.testBit i = true ∧ b i &&& (65535 - del S i) = 0 then fin b n (del S i) else 0
theorem fin_zero (b : Nat → Nat) (n : Nat) : fin b n 0 = 1 := by rw [fin]; simp
theorem lastly_zero (b : Nat → Nat) (n i : Nat) : lastly b n 0 i = 0 := by simp [lastly]
theorem fin_eq {b : Nat → Nat} {n S : Nat} (h : S ≠ 0) : fin b n S = sumUp (lastly b n S) n := by
  rw [fin, if_neg h]
  refine sumUp_congr fun i _ => ?_
  unfold lastly
  by_cases hb : S.testBit i = true
  · by_cases hw : b i &&& (65535 - del S i) = 0 <;> simp [hb, hw]
  · simp [hb]
theorem fin_sum (b : Nat → Nat) (n S : Nat) : fin b n S = (if S = 0 then 1 else 0) + sumUp (lastly b n S) n := by
  by_cases h : S = 0
  · subst h; rw [fin_zero, if_pos rfl, sumUp_zero (fun i _ => lastly_zero b n i)]
  · rw [if_neg h, fin_eq h]; omega

/-! ### The table -/
theorem rdy_bit (b : Nat → Nat) (d i : Nat) : ∀ m, (rdyUp b d m).testBit i = (decide (i < m) && (!d.testBit i && decide (b i &&& (65535 - d) = 0)))
  | 0 => by simp [rdyUp]
  | m + 1 => by
    unfold rdyUp
    by_cases e : i = m
    · subst e
      have h0 := rdy_bit b d i i
      by_cases hc : d.testBit i = false ∧ b i &&& (65535 - d) = 0
      · rw [if_pos hc, Nat.testBit_or, h0, Nat.testBit_two_pow_self]; simp [hc]
      · rw [if_neg hc, h0]
        cases hd : d.testBit i
        · simp [hd] at hc; simp [hc]
        · simp
    · have h0 := rdy_bit b d i m
      have : decide (i < m + 1) = decide (i < m) := by
        by_cases h : i < m
        · simp [h]; omega
        · simp [h]; omega
      rw [this, ← h0]
      split
      · rw [Nat.testBit_or, Nat.testBit_two_pow]; simp [show ¬ m = i from fun k => e k.symm]
      · rfl

theorem pushed_at {next d : Nat} {f : Nat → Int} : ∀ {m : Nat}, (∀ i, i < m → next.testBit i = true → d.testBit i = false) → pushed next d f m d = f d ∧ ∀ S, ((∃ i, i < m ∧ next.testBit i = true ∧ S = d ||| 2 ^ i) → pushed next d f m S = wrap64 (f S + f d)) ∧ ((¬ ∃ i, i < m ∧ next.testBit i = true ∧ S = d ||| 2 ^ i) → pushed next d f m S = f S)
  | 0, _ => ⟨rfl, fun S => ⟨fun ⟨i, hi, _⟩ => by omega, fun _ => rfl⟩⟩
  | m + 1, h => by
    obtain ⟨ih0, ih⟩ := pushed_at (next := next) (d := d) (f := f) (m := m) (fun i hi => h i (by omega))
    by_cases hm : next.testBit m = true
    · have hdm := h m (by omega) hm
      have hne : ∀ i, d.testBit i = false → d ≠ d ||| 2 ^ i := fun i hi e => by
        have := congrArg (fun t => t.testBit i) e
        simp [hi] at this
      have hfresh : ¬ ∃ i, i < m ∧ next.testBit i = true ∧ d ||| 2 ^ m = d ||| 2 ^ i := by
        rintro ⟨i, hi, _, e⟩
        have := congrArg (fun t => t.testBit m) e
        simp [hdm, show ¬ i = m by omega] at this
      have e1 : pushed next d f (m + 1) = upd (pushed next d f m) (d ||| 2 ^ m) (wrap64 (pushed next d f m (d ||| 2 ^ m) + pushed next d f m d)) := by rw [pushed, if_pos hm]
      rw [ih0, (ih _).2 hfresh] at e1
      refine ⟨by rw [e1]; unfold upd; rw [if_neg (hne m hdm)]; exact ih0, fun S => ⟨fun ⟨i, hi, hn, hS⟩ => ?_, fun hno => ?_⟩⟩
      · rw [e1]
        unfold upd
        by_cases e : S = d ||| 2 ^ m
        · rw [if_pos e, e]
        · rw [if_neg e]
          refine (ih S).1 ⟨i, ?_, hn, hS⟩
          rcases Nat.lt_or_ge i m with h' | h'
          · exact h'
          · obtain rfl : i = m := by omega
            exact absurd hS e
      · rw [e1]
        unfold upd
        rw [if_neg (fun e => hno ⟨m, by omega, hm, e⟩)]
        exact (ih S).2 (fun ⟨i, hi, hn, hS⟩ => hno ⟨i, by omega, hn, hS⟩)
    · have e1 : pushed next d f (m + 1) = pushed next d f m := by rw [pushed, if_neg hm]
      rw [e1]
      refine ⟨ih0, fun S => ⟨fun ⟨i, hi, hn, hS⟩ => (ih S).1 ⟨i, ?_, hn, hS⟩, fun hno => (ih S).2 (fun ⟨i, hi, hn, hS⟩ => hno ⟨i, by omega, hn, hS⟩)⟩⟩
      rcases Nat.lt_or_ge i m with h' | h'
      · exact h'
      · obtain rfl : i = m := by omega
        exact absurd hn hm

theorem wrap_add (x y : Int) : wrap64 (wrap64 x + wrap64 y) = wrap64 (x + y) := by
  simp only [wrap64]
  omega
theorem ctab_val {b : Nat → Nat} {n : Nat} : ∀ K, ∀ S, ctab b n K S = wrap64 (((if S = 0 then 1 else 0) + sumUp (fun i => if del S i < K then lastly b n S i else 0) n : Nat) : Int)
  | 0, S => by
    rw [sumUp_zero (fun i _ => by simp)]
    show (if S = 0 then (1 : Int) else 0) = _
    split <;> simp [wrap64]
  | K + 1, S => by
    have ih := ctab_val (b := b) (n := n) K
    have hK : ctab b n K K = wrap64 ((fin b n K : Nat) : Int) := by
      rw [ih K, fin_sum]
      refine congrArg (fun t : Nat => wrap64 ((_ + t : Nat) : Int)) (sumUp_congr fun i _ => ?_)
      by_cases hb : K.testBit i = true
      · rw [if_pos (del_lt hb)]
      · rw [show lastly b n K i = 0 by unfold lastly; rw [if_neg (fun h => hb h.1)]]; simp
    have hnext : ∀ i, i < n → (rdyUp b K n).testBit i = true → K.testBit i = false := fun i _ h => by
      rw [rdy_bit] at h
      cases hb : K.testBit i
      · rfl
      · rw [hb] at h; simp at h
    obtain ⟨_, hp⟩ := pushed_at (f := ctab b n K) hnext
    show pushed (rdyUp b K n) K (ctab b n K) n S = _
    by_cases hit : ∃ i, i < n ∧ (rdyUp b K n).testBit i = true ∧ S = K ||| 2 ^ i
    · rw [(hp S).1 hit, hK, ih S, wrap_add]
      obtain ⟨i, hi, hr, hS⟩ := hit
      have hKi := hnext i hi hr
      have hd : del S i = K := by rw [hS, del_or hKi]
      have hSi : S.testBit i = true := by rw [hS]; simp
      have hw : b i &&& (65535 - K) = 0 := by
        rw [rdy_bit] at hr
        simp at hr
        exact hr.2.2
      rw [sumUp_one (f := fun j => if del S j < K + 1 then lastly b n S j else 0) (g := fun j => if del S j < K then lastly b n S j else 0) (j := i) (v := fin b n K) ?_ hi ?_]
      · congr 1
        omega
      · simp only [hd]
        rw [if_pos (by omega), if_neg (by omega)]
        unfold lastly
        rw [if_pos ⟨hSi, by rw [hd]; exact hw⟩, hd]; omega
      · intro j _ hj
        have : del S j ≠ K := fun e => hj (del_inj (e.trans hd.symm))
        by_cases h1 : del S j < K
        · simp only [if_pos h1, if_pos (show del S j < K + 1 by omega)]
        · simp only [if_neg h1, if_neg (show ¬ del S j < K + 1 by omega)]
    · rw [(hp S).2 hit, ih S]
      refine congrArg (fun t : Nat => wrap64 ((_ + t : Nat) : Int)) (sumUp_congr fun i hi => ?_)
      by_cases h1 : del S i < K
      · simp only [if_pos h1, if_pos (show del S i < K + 1 by omega)]
      · by_cases h2 : del S i = K
        · have : lastly b n S i = 0 := by
            unfold lastly
            rw [if_neg]
            rintro ⟨hb, hw⟩
            refine hit ⟨i, hi, ?_, ?_⟩
            · rw [rdy_bit, ← h2, del_self hb]
              simp [hi, hw]
            · rw [← h2, or_del hb]
          simp [this]
        · simp only [if_neg h1, if_neg (show ¬ del S i < K + 1 by omega)]

/-- What Count tells: the orders of all. -/
def all (n : Nat) : Nat := 2 ^ n - 1
theorem tab_fin (b : Nat → Nat) (n : Nat) : ctab b n (2 ^ n) (all n) = wrap64 ((fin b n (all n) : Nat) : Int) := by
  rw [ctab_val, fin_sum]
  refine congrArg (fun t : Nat => wrap64 ((_ + t : Nat) : Int)) (sumUp_congr fun i _ => ?_)
  by_cases hb : (all n).testBit i = true
  · have h1 := del_lt hb
    have h2 : all n < 2 ^ n := by have := Nat.two_pow_pos n; unfold all; omega
    rw [if_pos (by omega)]
  · rw [show lastly b n (all n) i = 0 by unfold lastly; rw [if_neg (fun h => hb h.1)]]; simp
end Go.Proofs.YtkfijolimoehmaaDoor
