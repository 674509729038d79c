/-
  Plain: in how many ways the items of a set can be the first ones: by the item that comes last. And that the table holds it.
-/
import Derived.Test.YtcpmhflkooipdaaDoorGood
import Derived.Test.YtcpmhflkooipdaaDoorCountPure
namespace Go.Proofs.YtcpmhflkooipdaaDoor
open Go.RowKit
set_option maxRecDepth 20000

/-! ### A set less one item -/
def del (S i : Nat) : Nat := S ^^^ 2 ^ i
theorem del_bit (S i j : Nat) : (del S i).testBit j = (S.testBit j ^^ decide (i = j)) := by
  unfold del
  rw [Nat.testBit_xor, Nat.testBit_two_pow]
theorem del_self {S i : Nat} (h : S.testBit i = true) : (del S i).testBit i = false := by rw [del_bit, h]; simp
theorem del_ne (S : Nat) {i j : Nat} (h : i ≠ j) : (del S i).testBit j = S.testBit j := by rw [del_bit]; simp [h]
theorem del_sub {S i j : Nat} (h : S.testBit i = true) (hj : (del S i).testBit j = true) : S.testBit j = true := by
  by_cases e : i = j
  · subst e; exact h
  · rwa [del_ne S e] at hj
theorem del_lt {S i : Nat} (h : S.testBit i = true) : del S i < S := by
  have e : S &&& del S i = del S i := by
    apply Nat.eq_of_testBit_eq
    intro j
    rw [Nat.testBit_and]
    cases hj : (del S i).testBit j
    · simp
    · rw [del_sub h hj]; rfl
  have hle : S &&& del S i ≤ S := Nat.and_le_left
  rw [e] at hle
  rcases Nat.lt_or_ge (del S i) S with hlt | hge
  · exact hlt
  · have h' := h
    rw [← Nat.le_antisymm hle hge, del_self h] at h'
    cases h'
theorem or_del {S i : Nat} (h : S.testBit i = true) : del S i ||| 2 ^ i = S := by
  apply Nat.eq_of_testBit_eq
  intro j
  rw [Nat.testBit_or, del_bit, Nat.testBit_two_pow]
  by_cases e : i = j
  · subst e; simp [h]
  · simp [e]
theorem del_or {d i : Nat} (h : d.testBit i = false) : del (d ||| 2 ^ i) i = d := by
  apply Nat.eq_of_testBit_eq
  intro j
  rw [del_bit, Nat.testBit_or, Nat.testBit_two_pow]
  by_cases e : i = j
  · subst e; simp [h]
  · simp [e]
theorem del_inj {S i j : Nat} (h : del S i = del S j) : i = j := by
  have := congrArg (fun t => t.testBit i) h
  simp only [del_bit] at this
  by_cases e : i = j
  · exact e
  · simp [show ¬ j = i from fun k => e k.symm] at this

/-! ### Sums -/
theorem sumUp_congr {f g : Nat → Nat} : ∀ {m : Nat}, (∀ i, i < m → f i = g i) → sumUp f m = sumUp g m
  | 0, _ => rfl
  | m + 1, h => by rw [sumUp, sumUp, sumUp_congr (fun i hi => h i (by omega)), h m (by omega)]
theorem sumUp_add (f g : Nat → Nat) : ∀ m, sumUp (fun i => f i + g i) m = sumUp f m + sumUp g m
  | 0 => rfl
  | m + 1 => by rw [sumUp, sumUp, sumUp, sumUp_add f g m]; omega
theorem sumUp_zero {f : Nat → Nat} : ∀ {m : Nat}, (∀ i, i < m → f i = 0) → sumUp f m = 0
  | 0, _ => rfl
  | m + 1, h => by rw [sumUp, sumUp_zero (fun i hi => h i (by omega)), h m (by omega)]
theorem sumUp_ne {f : Nat → Nat} {m : Nat} (h : sumUp f m ≠ 0) : ∃ i, i < m ∧ f i ≠ 0 := by
  apply Classical.byContradiction
  intro k
  exact h (sumUp_zero fun i hi => Classical.byContradiction fun e => k ⟨i, hi, e⟩)
theorem sumUp_one {f g : Nat → Nat} {j v : Nat} (hj : f j = g j + v) : ∀ {m : Nat}, j < m → (∀ i, i < m → i ≠ j → f i = g i) → sumUp f m = sumUp g m + v
  | 0, h, _ => by omega
  | m + 1, h, k => by
    rw [sumUp, sumUp]
    by_cases e : j = m
    · subst e
      rw [sumUp_congr (fun i hi => k i (by omega) (by omega)), hj]; omega
    · rw [sumUp_one hj (by omega) (fun i hi hn => k i (by omega) hn), k m (by omega) (fun x => e x.symm)]; omega
theorem sumUp_le {f g : Nat → Nat} : ∀ {m : Nat}, (∀ i, i < m → f i ≤ g i) → sumUp f m ≤ sumUp g m
  | 0, _ => Nat.le_refl _
  | m + 1, h => Nat.add_le_add (sumUp_le fun i hi => h i (by omega)) (h m (by omega))

/-! ### The orders of a set -/
def fin (b : Nat → Nat) (n S : Nat) : Nat :=
  if S = 0 then 1 else sumUp (fun i => if _h : S.testBit i = true then (if b i &&& (65535 - del S i) = 0 then fin b n (del S i) else 0) else 0) n
termination_by S
decreasing_by exact del_lt (by assumption)

/-- Those in which item i comes last. -/
def lastly (b : Nat → Nat) (n S i : Nat) : Nat := if S.testBit i = true ∧ b i &&& (65535 - del S i) = 0 then fin b n (del S i) else 0
theorem fin_zero (b : Nat → Nat) (n : Nat) : fin b n 0 = 1 := by rw [fin]; simp
theorem lastly_zero (b : Nat → Nat) (n i : Nat) : lastly b n 0 i = 0 := by simp [lastly]
theorem fin_eq {b : Nat → Nat} {n S : Nat} (h : S ≠ 0) : fin b n S = sumUp (lastly b n S) n := by
  rw [fin, if_neg h]
  refine sumUp_congr fun i _ => ?_
  unfold lastly
  by_cases hb : S.testBit i = true
  · by_cases hw : b i &&& (65535 - del S i) = 0 <;> simp [hb, hw]
  · simp [hb]
theorem fin_sum (b : Nat → Nat) (n S : Nat) : fin b n S = (if S = 0 then 1 else 0) + sumUp (lastly b n S) n := by
  by_cases h : S = 0
  · subst h; rw [fin_zero, if_pos rfl, sumUp_zero (fun i _ => lastly_zero b n i)]
  · rw [if_neg h, fin_eq h]; omega

/-! ### The table -/
theorem rdy_bit (b : Nat → Nat) (d i : Nat) : ∀ m, (rdyUp b d m).testBit i = (decide (i < m) && (!d.testBit i && decide (b i &&& (65535 - d) = 0)))
  | 0 => by simp [rdyUp]
  | m + 1 => by
    unfold rdyUp
    by_cases e : i = m
    · subst e
      have h0 := rdy_bit b d i i
      by_cases hc : d.testBit i = false ∧ b i &&& (65535 - d) = 0
      · rw [if_pos hc, Nat.testBit_or, h0, Nat.testBit_two_pow_self]; simp [hc]
      · rw [if_neg hc, h0]
        cases hd : d.testBit i
        · simp [hd] at hc; simp [hc]
        · simp
    · have h0 := rdy_bit b d i m
      have : decide (i < m + 1) = decide (i < m) := by
        by_cases h : i < m
        · simp [h]; omega
        · simp [h]; omega
      rw [this, ← h0]
      split
      · rw [Nat.testBit_or, Nat.testBit_two_pow]; simp [show ¬ m = i from fun k => e k.symm]
      · rfl

theorem pushed_at {next d : Nat} {f : Nat → Int} : ∀ {m : Nat}, (∀ i, i < m → next.testBit i = true → d.testBit i = false) → pushed next d f m d = f d ∧ ∀ S, ((∃ i, i < m ∧ next.testBit i = true ∧ S = d ||| 2 ^ i) → pushed next d f m S = wrap64 (f S + f d)) ∧ ((¬ ∃ i, i < m ∧ next.testBit i = true ∧ S = d ||| 2 ^ i) → pushed next d f m S = f S)
  | 0, _ => ⟨rfl, fun S => ⟨fun ⟨i, hi, _⟩ => by omega, fun _ => rfl⟩⟩
  | m + 1, h => by
    obtain ⟨ih0, ih⟩ := pushed_at (next := next) (d := d) (f := f) (m := m) (fun i hi => h i (by omega))
    by_cases hm : next.testBit m = true
    · have hdm := h m (by omega) hm
      have hne : ∀ i, d.testBit i = false → d ≠ d ||| 2 ^ i := fun i hi e => by
        have := congrArg (fun t => t.testBit i) e
        simp [hi] at this
      have hfresh : ¬ ∃ i, i < m ∧ next.testBit i = true ∧ d ||| 2 ^ m = d ||| 2 ^ i := by
        rintro ⟨i, hi, _, e⟩
        have := congrArg (fun t => t.testBit m) e
        simp [hdm, show ¬ i = m by omega] at this
      have e1 : pushed next d f (m + 1) = upd (pushed next d f m) (d ||| 2 ^ m) (wrap64 (pushed next d f m (d ||| 2 ^ m) + pushed next d f m d)) := by rw [pushed, if_pos hm]
      rw [ih0, (ih _).2 hfresh] at e1
      refine ⟨by rw [e1]; unfold upd; rw [if_neg (hne m hdm)]; exact ih0, fun S => ⟨fun ⟨i, hi, hn, hS⟩ => ?_, fun hno => ?_⟩⟩
      · rw [e1]
        unfold upd
        by_cases e : S = d ||| 2 ^ m
        · rw [if_pos e, e]
        · rw [if_neg e]
          refine (ih S).1 ⟨i, ?_, hn, hS⟩
          rcases Nat.lt_or_ge i m with h' | h'
          · exact h'
          · obtain rfl : i = m := by omega
            exact absurd hS e
      · rw [e1]
        unfold upd
        rw [if_neg (fun e => hno ⟨m, by omega, hm, e⟩)]
        exact (ih S).2 (fun ⟨i, hi, hn, hS⟩ => hno ⟨i, by omega, hn, hS⟩)
    · have e1 : pushed next d f (m + 1) = pushed next d f m := by rw [pushed, if_neg hm]
      rw [e1]
      refine ⟨ih0, fun S => ⟨fun ⟨i, hi, hn, hS⟩ => (ih S).1 ⟨i, ?_, hn, hS⟩, fun hno => (ih S).2 (fun ⟨i, hi, hn, hS⟩ => hno ⟨i, by omega, hn, hS⟩)⟩⟩
      rcases Nat.lt_or_ge i m with h' | h'
      · exact h'
      · obtain rfl : i = m := by omega
        exact absurd hn hm

theorem wrap_add (x y : Int) : wrap64 (wrap64 x + wrap64 y) = wrap64 (x + y) := by
  simp only [wrap64]
  omega
theorem ctab_val {b : Nat → Nat} {n : Nat} : ∀ K, ∀ S, ctab b n K S = wrap64 (((if S = 0 then 1 else 0) + sumUp (fun i => if del S i < K then lastly b n S i else 0) n : Nat) : Int)
  | 0, S => by
    rw [sumUp_zero (fun i _ => by simp)]
    show (if S = 0 then (1 : Int) else 0) = _
    split <;> simp [wrap64]
  | K + 1, S => by
    have ih := ctab_val (b := b) (n := n) K
    have hK : ctab b n K K = wrap64 ((fin b n K : Nat) : Int) := by
      rw [ih K, fin_sum]
      refine congrArg (fun t : Nat => wrap64 ((_ + t : Nat) : Int)) (sumUp_congr fun i _ => ?_)
      by_cases hb : K.testBit i = true
      · rw [if_pos (del_lt hb)]
      · rw [show lastly b n K i = 0 by unfold lastly; rw [if_neg (fun h => hb h.1)]]; simp
    have hnext : ∀ i, i < n → (rdyUp b K n).testBit i = true → K.testBit i = false := fun i _ h => by
      rw [rdy_bit] at h
      cases hb : K.testBit i
      · rfl
      · rw [hb] at h; simp at h
    obtain ⟨_, hp⟩ := pushed_at (f := ctab b n K) hnext
    show pushed (rdyUp b K n) K (ctab b n K) n S = _
    by_cases hit : ∃ i, i < n ∧ (rdyUp b K n).testBit i = true ∧ S = K ||| 2 ^ i
    · rw [(hp S).1 hit, hK, ih S, wrap_add]
      obtain ⟨i, hi, hr, hS⟩ := hit
      have hKi := hnext i hi hr
      have hd : del S i = K := by rw [hS, del_or hKi]
      have hSi : S.testBit i = true := by rw [hS]; simp
      have hw : b i &&& (65535 - K) = 0 := by
        rw [rdy_bit] at hr
        simp at hr
        exact hr.2.2
      rw [sumUp_one (f := fun j => if del S j < K + 1 then lastly b n S j else 0) (g := fun j => if del S j < K then lastly b n S j else 0) (j := i) (v := fin b n K) ?_ hi ?_]
      · congr 1
        omega
      · simp only [hd]
        rw [if_pos (by omega), if_neg (by omega)]
        unfold lastly
        rw [if_pos ⟨hSi, by rw [hd]; exact hw⟩, hd]; omega
      · intro j _ hj
        have : del S j ≠ K := fun e => hj (del_inj (e.trans hd.symm))
        by_cases h1 : del S j < K
        · simp only [if_pos h1, if_pos (show del S j < K + 1 by omega)]
        · simp only [if_neg h1, if_neg (show ¬ del S j < K + 1 by omega)]
    · rw [(hp S).2 hit, ih S]
      refine congrArg (fun t : Nat => wrap64 ((_ + t : Nat) : Int)) (sumUp_congr fun i hi => ?_)
      by_cases h1 : del S i < K
      · simp only [if_pos h1, if_pos (show del S i < K + 1 by omega)]
      · by_cases h2 : del S i = K
        · have : lastly b n S i = 0 := by
            unfold lastly
            rw [if_neg]
            rintro ⟨hb, hw⟩
            refine hit ⟨i, hi, ?_, ?_⟩
            · rw [rdy_bit, ← h2, del_self hb]
              simp [hi, hw]
            · rw [← h2, or_del hb]
          simp [this]
        · simp only [if_neg h1, if_neg (show ¬ del S i < K + 1 by omega)]

/-- What Count tells: the orders of all. -/
def all (n : Nat) : Nat := 2 ^ n - 1
theorem tab_fin (b : Nat → Nat) (n : Nat) : ctab b n (2 ^ n) (all n) = wrap64 ((fin b n (all n) : Nat) : Int) := by
  rw [ctab_val, fin_sum]
  refine congrArg (fun t : Nat => wrap64 ((_ + t : Nat) : Int)) (sumUp_congr fun i _ => ?_)
  by_cases hb : (all n).testBit i = true
  · have h1 := del_lt hb
    have h2 : all n < 2 ^ n := by have := Nat.two_pow_pos n; unfold all; omega
    rw [if_pos (by omega)]
  · rw [show lastly b n (all n) i = 0 by unfold lastly; rw [if_neg (fun h => hb h.1)]]; simp
end Go.Proofs.YtcpmhflkooipdaaDoor
