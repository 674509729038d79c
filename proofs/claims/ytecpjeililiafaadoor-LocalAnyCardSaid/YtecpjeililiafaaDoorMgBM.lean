/-
  Joined by a program out of: Fin, SplitPure.
-/
import Derived.Test.YtecpjeililiafaaDoorMgBL

/-
  Plain: in how many ways the items of a set can be the first ones: by the item that comes last. And that the table holds it.
-/
namespace Go.Proofs.YtecpjeililiafaaDoor
open Go.RowKit
set_option maxRecDepth 20000

/-! ### A set less one item -/
def del (S i : Nat) : Nat := S ^^^ 2 ^ i
theorem del_bit (S i j : Nat) : (del S i).testBit j = (S.testBit j ^^ decide (i = j)) := by
  unfold del
  rw [Nat.testBit_xor, Nat.testBit_two_pow]
theorem del_self {S i : Nat} (h : S.testBit i = true) : (del S i).testBit i = false := by rw [del_bit, h]; simp
theorem del_ne (S : Nat) {i j : Nat} (h : i ≠ j) : (del S i).testBit j = S.testBit j := by rw [del_bit]; simp [h]
theorem del_sub {S i j : Nat} (h : S.testBit i = true) (hj : (del S i).testBit j = true) : S.testBit j = true := by
  by_cases e : i = j
  · subst e; exact h
  · rwa [del_ne S e] at hj
theorem del_lt {S i : Nat} (h : S.testBit i = true) : del S i < S := by
  have e : S &&& del S i = del S i := by
    apply Nat.eq_of_testBit_eq
    intro j
    rw [Nat.testBit_and]
    cases hj : (del S i).testBit j
    · simp
    · rw [del_sub h hj]; rfl
  have hle : S &&& del S i ≤ S := Nat.and_le_left
  rw [e] at hle
  rcases Nat.lt_or_ge (del S i) S with hlt | hge
  · exact hlt
  · have h' := h
    rw [← Nat.le_antisymm hle hge, del_self h] at h'
    cases h'
theorem or_del {S i : Nat} (h : S.testBit i = true) : del S i ||| 2 ^ i = S := by
  apply Nat.eq_of_testBit_eq
  intro j
  rw [Nat.testBit_or, del_bit, Nat.testBit_two_pow]
  by_cases e : i = j
  · subst e; simp [h]
  · simp [e]
theorem del_or {d i : Nat} (h : d.testBit i = false) : del (d ||| 2 ^ i) i = d := by
  apply Nat.eq_of_testBit_eq
  intro j
  rw [del_bit, Nat.testBit_or, Nat.testBit_two_pow]
  by_cases e : i = j
  · subst e; simp [h]
  · simp [e]
theorem del_inj {S i j : Nat} (h : del S i = del S j) : i = j := by
  have := congrArg (fun t => t.testBit i) h
  simp only [del_bit] at this
  by_cases e : i = j
  · exact e
  · simp [show ¬ j = i from fun k => e k.symm] at this

/-! ### Sums -/
theorem sumUp_congr {f g : Nat → Nat} : ∀ {m : Nat}, (∀ i, i < m → f i = g i) → sumUp f m = sumUp g m
  | 0, _ => rfl
  | m + 1, h => by rw [sumUp, sumUp, sumUp_congr (fun i hi => h i (by omega)), h m (by omega)]
theorem sumUp_add (f g : Nat → Nat) : ∀ m, sumUp (fun i => f i + g i) m = sumUp f m + sumUp g m
  | 0 => rfl
  | m + 1 => by rw [sumUp, sumUp, sumUp, sumUp_add f g m]; omega
theorem sumUp_zero {f : Nat → Nat} : ∀ {m : Nat}, (∀ i, i < m → f i = 0) → sumUp f m = 0
  | 0, _ => rfl
  | m + 1, h => by rw [sumUp, sumUp_zero (fun i hi => h i (by omega)), h m (by omega)]
theorem sumUp_ne {f : Nat → Nat} {m : Nat} (h : sumUp f m ≠ 0) : ∃ i, i < m ∧ f i ≠ 0 := by
  apply Classical.byContradiction
  intro k
  exact h (sumUp_zero fun i hi => Classical.byContradiction fun e => k ⟨i, hi, e⟩)
theorem sumUp_one {f g : Nat → Nat} {j v : Nat} (hj : f j = g j + v) : ∀ {m : Nat}, j < m → (∀ i, i < m → i ≠ j → f i = g i) → sumUp f m = sumUp g m + v
  | 0, h, _ => by omega
  | m + 1, h, k => by
    rw [sumUp, sumUp]
    by_cases e : j = m
    · subst e
      rw [sumUp_congr (fun i hi => k i (by omega) (by omega)), hj]; omega
    · rw [sumUp_one hj (by omega) (fun i hi hn => k i (by omega) hn), k m (by omega) (fun x => e x.symm)]; omega
theorem sumUp_le {f g : Nat → Nat} : ∀ {m : Nat}, (∀ i, i < m → f i ≤ g i) → sumUp f m ≤ sumUp g m
  | 0, _ => Nat.le_refl _
  | m + 1, h => Nat.add_le_add (sumUp_le fun i hi => h i (by omega)) (h m (by omega))

/-! ### The orders of a set -/
def fin (b : Nat → Nat) (n S : Nat) : Nat :=
  if S = 0 then 1 else sumUp (fun i => if _h : S.testBit i = true then (if b i &&& (65535 - del S i) = 0 then fin b n (del S i) else 0) else 0) n
termination_by S
decreasing_by exact del_lt (by assumption)

/-- Those in which item i comes last. -/
def lastly (b : Nat → Nat) (n S i : Nat) : Nat := if S.testBit i = true ∧ b i &&& (65535 - del S i) = 0 then fin b n (del S i) else 0
theorem fin_zero (b : Nat → Nat) (n : Nat) : fin b n 0 = 1 := by rw [fin]; simp
theorem lastly_zero (b : Nat → Nat) (n i : Nat) : lastly b n 0 i = 0 := by simp [lastly]
theorem fin_eq {b : Nat → Nat} {n S : Nat} (h : S ≠ 0) : fin b n S = sumUp (lastly b n S) n := by
  rw [fin, if_neg h]
  refine sumUp_congr fun i _ => ?_
  unfold lastly
  by_cases hb : S.testBit i = true
  · by_cases hw : b i &&& (65535 - del S i) = 0 <;> simp [hb, hw]
  · simp [hb]
theorem fin_sum (b : Nat → Nat) (n S : Nat) : fin b n S = (if S = 0 then 1 else 0) + sumUp (lastly b n S) n := by
  by_cases h : S = 0
  · subst h; rw [fin_zero, if_pos rfl, sumUp_zero (fun i _ => lastly_zero b n i)]
  · rw [if_neg h, fin_eq h]; omega

/-! ### The table -/
theorem rdy_bit (b : Nat → Nat) (d i : Nat) : ∀ m, (rdyUp b d m).testBit i = (decide (i < m) && (!d.testBit i && decide (b i &&& (65535 - d) = 0)))
  | 0 => by simp [rdyUp]
  | m + 1 => by
    unfold rdyUp
    by_cases e : i = m
    · subst e
      have h0 := rdy_bit b d i i
      by_cases hc : d.testBit i = false ∧ b i &&& (65535 - d) = 0
      · rw [if_pos hc, Nat.testBit_or, h0, Nat.testBit_two_pow_self]; simp [hc]
      · rw [if_neg hc, h0]
        cases hd : d.testBit i
        · simp [hd] at hc; simp [hc]
        · simp
    · have h0 := rdy_bit b d i m
      have : decide (i < m + 1) = decide (i < m) := by
        by_cases h : i < m
        · simp [h]; omega
        · simp [h]; omega
      rw [this, ← h0]
      split
      · rw [Nat.testBit_or, Nat.testBit_two_pow]; simp [show ¬ m = i from fun k => e k.symm]
      · rfl

theorem pushed_at {next d : Nat} {f : Nat → Int} : ∀ {m : Nat}, (∀ i, i < m → next.testBit i = true → d.testBit i = false) → pushed next d f m d = f d ∧ ∀ S, ((∃ i, i < m ∧ next.testBit i = true ∧ S = d ||| 2 ^ i) → pushed next d f m S = wrap64 (f S + f d)) ∧ ((¬ ∃ i, i < m ∧ next.testBit i = true ∧ S = d ||| 2 ^ i) → pushed next d f m S = f S)
  | 0, _ => ⟨rfl, fun S => ⟨fun ⟨i, hi, _⟩ => by omega, fun _ => rfl⟩⟩
  | m + 1, h => by
    obtain ⟨ih0, ih⟩ := pushed_at (next := next) (d := d) (f := f) (m := m) (fun i hi => h i (by omega))
    by_cases hm : next.testBit m = true
    · have hdm := h m (by omega) hm
      have hne : ∀ i, d.testBit i = false → d ≠ d ||| 2 ^ i := fun i hi e => by
        have := congrArg (fun t => t.testBit i) e
        simp [hi] at this
      have hfresh : ¬ ∃ i, i < m ∧ next.testBit i = true ∧ d ||| 2 ^ m = d ||| 2 ^ i := by
        rintro ⟨i, hi, _, e⟩
        have := congrArg (fun t => t.testBit m) e
        simp [hdm, show ¬ i = m by omega] at this
      have e1 : pushed next d f (m + 1) = upd (pushed next d f m) (d ||| 2 ^ m) (wrap64 (pushed next d f m (d ||| 2 ^ m) + pushed next d f m d)) := by rw [pushed, if_pos hm]
      rw [ih0, (ih _).2 hfresh] at e1
      refine ⟨by rw [e1]; unfold upd; rw [if_neg (hne m hdm)]; exact ih0, fun S => ⟨fun ⟨i, hi, hn, hS⟩ => ?_, fun hno => ?_⟩⟩
      · rw [e1]
        unfold upd
        by_cases e : S = d ||| 2 ^ m
        · rw [if_pos e, e]
        · rw [if_neg e]
          refine (ih S).1 ⟨i, ?_, hn, hS⟩
          rcases Nat.lt_or_ge i m with h' | h'
          · exact h'
          · obtain rfl : i = m := by omega
            exact absurd hS e
      · rw [e1]
        unfold upd
        rw [if_neg (fun e => hno ⟨m, by omega, hm, e⟩)]
        exact (ih S).2 (fun ⟨i, hi, hn, hS⟩ => hno ⟨i, by omega, hn, hS⟩)
    · have e1 : pushed next d f (m + 1) = pushed next d f m := by rw [pushed, if_neg hm]
      rw [e1]
      refine ⟨ih0, fun S => ⟨fun ⟨i, hi, hn, hS⟩ => (ih S).1 ⟨i, ?_, hn, hS⟩, fun hno => (ih S).2 (fun ⟨i, hi, hn, hS⟩ => hno ⟨i, by omega, hn, hS⟩)⟩⟩
      rcases Nat.lt_or_ge i m with h' | h'
      · exact h'
      · obtain rfl : i = m := by omega
        exact absurd hn hm

theorem wrap_add (x y : Int) : wrap64 (wrap64 x + wrap64 y) = wrap64 (x + y) := by
  simp only [wrap64]
  omega
theorem ctab_val {b : Nat → Nat} {n : Nat} : ∀ K, ∀ S, ctab b n K S = wrap64 (((if S = 0 then 1 else 0) + sumUp (fun i => if del S i < K then lastly b n S i else 0) n : Nat) : Int)
  | 0, S => by
    rw [sumUp_zero (fun i _ => by simp)]
    show (if S = 0 then (1 : Int) else 0) = _
    split <;> simp [wrap64]
  | K + 1, S => by
    have ih := ctab_val (b := b) (n := n) K
    have hK : ctab b n K K = wrap64 ((fin b n K : Nat) : Int) := by
      rw [ih K, fin_sum]
      refine congrArg (fun t : Nat => wrap64 ((_ + t : Nat) : Int)) (sumUp_congr fun i _ => ?_)
      by_cases hb : K.testBit i = true
      · rw [if_pos (del_lt hb)]
      · rw [show lastly b n K i = 0 by unfold lastly; rw [if_neg (fun h => hb h.1)]]; simp
    have hnext : ∀ i, i < n → (rdyUp b K n).testBit i = true → K.testBit i = false := fun i _ h => by
      rw [rdy_bit] at h
      cases hb : K.testBit i
      · rfl
      · rw [hb] at h; simp at h
    obtain ⟨_, hp⟩ := pushed_at (f := ctab b n K) hnext
    show pushed (rdyUp b K n) K (ctab b n K) n S = _
    by_cases hit : ∃ i, i < n ∧ (rdyUp b K n).testBit i = true ∧ S = K ||| 2 ^ i
    · rw [(hp S).1 hit, hK, ih S, wrap_add]
      obtain ⟨i, hi, hr, hS⟩ := hit
      have hKi := hnext i hi hr
      have hd : del S i = K := by rw [hS, del_or hKi]
      have hSi : S.testBit i = true := by rw [hS]; simp
      have hw : b i &&& (65535 - K) = 0 := by
        rw [rdy_bit] at hr
        simp at hr
        exact hr.2.2
      rw [sumUp_one (f := fun j => if del S j < K + 1 then lastly b n S j else 0) (g := fun j => if del S j < K then lastly b n S j else 0) (j := i) (v := fin b n K) ?_ hi ?_]
      · congr 1
        omega
      · simp only [hd]
        rw [if_pos (by omega), if_neg (by omega)]
        unfold lastly
        rw [if_pos ⟨hSi, by rw [hd]; exact hw⟩, hd]; omega
      · intro j _ hj
        have : del S j ≠ K := fun e => hj (del_inj (e.trans hd.symm))
        by_cases h1 : del S j < K
        · simp only [if_pos h1, if_pos (show del S j < K + 1 by omega)]
        · simp only [if_neg h1, if_neg (show ¬ del S j < K + 1 by omega)]
    · rw [(hp S).2 hit, ih S]
      refine congrArg (fun t : Nat => wrap64 ((_ + t : Nat) : Int)) (sumUp_congr fun i hi => ?_)
      by_cases h1 : del S i < K
      · simp only [if_pos h1, if_pos (show del S i < K + 1 by omega)]
      · by_cases h2 : del S i = K
        · have : lastly b n S i = 0 := by
            unfold lastly
            rw [if_neg]
            rintro ⟨hb, hw⟩
            refine hit ⟨i, hi, ?_, ?_⟩
            · rw [rdy_bit, ← h2, del_self hb]
              simp [hi, hw]
            · rw [← h2, or_del hb]
          simp [this]
        · simp only [if_neg h1, if_neg (show ¬ del S i < K + 1 by omega)]

/-- What Count tells: the orders of all. -/
def all (n : Nat) : Nat := 2 ^ n - 1
theorem tab_fin (b : Nat → Nat) (n : Nat) : ctab b n (2 ^ n) (all n) = wrap64 ((fin b n (all n) : Nat) : Int) := by
  rw [ctab_val, fin_sum]
  refine congrArg (fun t : Nat => wrap64 ((_ + t : Nat) : Int)) (sumUp_congr fun i _ => ?_)
  by_cases hb : (all n).testBit i = true
  · have h1 := del_lt hb
    have h2 : all n < 2 ^ n := by have := Nat.two_pow_pos n; unfold all; omega
    rw [if_pos (by omega)]
  · rw [show lastly b n (all n) i = 0 by unfold lastly; rw [if_neg (fun h => hb h.1)]]; simp
end Go.Proofs.YtecpjeililiafaaDoor

/-
  Plain: orders of a relation and of its closure are as many; of two items, those in which the one stands ahead, and those in which the other does, are all.
-/
namespace Go.Proofs.YtecpjeililiafaaDoor
open Go.RowKit
set_option maxRecDepth 20000

def Small (b : Nat → Nat) : Prop := ∀ i, b i < 65536
def Sub (x y : Nat) : Prop := ∀ t, x.testBit t = true → y.testBit t = true
theorem within_iff {x y : Nat} (hx : x < 65536) (hy : y < 65536) : x &&& (65535 - y) = 0 ↔ Sub x y := ⟨fun h t ht => sub_of_zero hx hy h t ht, fun h => sub_zero hy h⟩
theorem del_small {S i : Nat} (hS : S < 65536) (h : S.testBit i = true) : del S i < 65536 := Nat.lt_trans (del_lt h) hS
theorem lastly_iff {b : Nat → Nat} {n S i : Nat} (hb : Small b) (hS : S < 65536) (h : S.testBit i = true) (hs : Sub (b i) (del S i)) : lastly b n S i = fin b n (del S i) := by
  unfold lastly
  rw [if_pos ⟨h, (within_iff (hb i) (del_small hS h)).2 hs⟩]
theorem lastly_not {b : Nat → Nat} {n S i : Nat} (hb : Small b) (hS : S < 65536) (hs : ¬ (S.testBit i = true ∧ Sub (b i) (del S i))) : lastly b n S i = 0 := by
  unfold lastly
  rw [if_neg]
  rintro ⟨h, hw⟩
  exact hs ⟨h, (within_iff (hb i) (del_small hS h)).1 hw⟩
theorem lastly_ne {b : Nat → Nat} {n S i : Nat} (hb : Small b) (hS : S < 65536) (h : lastly b n S i ≠ 0) : S.testBit i = true ∧ Sub (b i) (del S i) ∧ fin b n (del S i) ≠ 0 := by
  by_cases hc : S.testBit i = true ∧ Sub (b i) (del S i)
  · exact ⟨hc.1, hc.2, by rwa [lastly_iff hb hS hc.1 hc.2] at h⟩
  · exact absurd (lastly_not hb hS hc) h

/-- What is ordered is closed downwards, and none stands ahead of itself. -/
theorem fin_down {b : Nat → Nat} {n : Nat} (hb : Small b) : ∀ m S, S < m → S < 65536 → fin b n S ≠ 0 → ∀ x, x < n → S.testBit x = true → Sub (b x) S ∧ (b x).testBit x = false
  | 0, _, h, _, _ => by omega
  | m + 1, S, hm, hS, hf => by
    intro x hx hSx
    have h0 : S ≠ 0 := fun e => by rw [e] at hSx; simp at hSx
    rw [fin_eq h0] at hf
    obtain ⟨i, _, hi⟩ := sumUp_ne hf
    obtain ⟨h1, h2, h3⟩ := lastly_ne hb hS hi
    by_cases e : x = i
    · subst e
      refine ⟨fun t ht => del_sub h1 (h2 t ht), ?_⟩
      cases hx' : (b x).testBit x
      · rfl
      · have := h2 x hx'
        rw [del_self h1] at this; cases this
    · obtain ⟨k1, k2⟩ := fin_down hb m (del S i) (by have := del_lt h1; omega) (del_small hS h1) h3 x hx (by rw [del_ne S (fun k => e k.symm)]; exact hSx)
      exact ⟨fun t ht => del_sub h1 (k1 t ht), k2⟩

/-- Two relations of which the one follows from the other have as many orders. -/
theorem fin_follow {b c : Nat → Nat} {n : Nat} (hb : Small b) (hc : Small c) (hn : n ≤ 16) (hsub : ∀ x, Sub (b x) (c x))
    (hfol : ∀ U i, i < n → U < 2 ^ n → (∀ x, x < n → U.testBit x = true → Sub (b x) U) → Sub (b i) U → Sub (c i) U) : ∀ m S, S < m → S < 2 ^ n → fin b n S = fin c n S
  | 0, _, h, _ => by omega
  | m + 1, S, hm, hS => by
    have hp : 2 ^ n ≤ 2 ^ 16 := Nat.pow_le_pow_right (by omega) hn
    have hS' : S < 65536 := Nat.lt_of_lt_of_le hS hp
    rw [fin_sum, fin_sum]
    congr 1
    refine sumUp_congr fun i hi => ?_
    by_cases h1 : S.testBit i = true
    · have ih := fin_follow hb hc hn hsub hfol m (del S i) (by have := del_lt h1; omega) (Nat.lt_trans (del_lt h1) hS)
      by_cases h2 : Sub (b i) (del S i)
      · rw [lastly_iff hb hS' h1 h2]
        by_cases h3 : fin b n (del S i) = 0
        · by_cases h4 : Sub (c i) (del S i)
          · rw [lastly_iff hc hS' h1 h4, ih]
          · rw [lastly_not hc hS' (fun k => h4 k.2), h3]
        · have hd := fin_down hb _ (del S i) (Nat.lt_succ_self _) (del_small hS' h1) h3
          rw [lastly_iff hc hS' h1 (hfol (del S i) i hi (Nat.lt_trans (del_lt h1) hS) (fun x hx hb => (hd x hx hb).1) h2), ih]
      · rw [lastly_not hb hS' (fun k => h2 k.2), lastly_not hc hS' (fun k => h2 (fun t ht => k.2 t (hsub i t ht)))]
    · rw [lastly_not hb hS' (fun k => h1 k.1), lastly_not hc hS' (fun k => h1 k.1)]
termination_by m => m

/-- One pair more: whoever stands ahead of j, and i besides. -/
def plus (b : Nat → Nat) (i j : Nat) : Nat → Nat := fun x => if x = j then b x ||| 2 ^ i else b x
theorem plus_bit (b : Nat → Nat) (i j x t : Nat) : (plus b i j x).testBit t = ((b x).testBit t || (decide (x = j) && decide (i = t))) := by
  unfold plus
  by_cases e : x = j
  · rw [if_pos e, Nat.testBit_or, Nat.testBit_two_pow]; simp [e]
  · rw [if_neg e]; simp [e]
theorem plus_ne (b : Nat → Nat) {i j x : Nat} (h : x ≠ j) : plus b i j x = b x := by unfold plus; rw [if_neg h]
theorem plus_small {b : Nat → Nat} (hb : Small b) {i j : Nat} (hi : i < 16) : Small (plus b i j) := fun x => by
  unfold plus
  split
  · exact Nat.or_lt_two_pow (n := 16) (hb x) (Nat.pow_lt_pow_right (by omega) hi)
  · exact hb x

theorem plus_out {b : Nat → Nat} {n i j : Nat} (hb : Small b) (hi : i < 16) : ∀ m S, S < m → S < 65536 → S.testBit j = false → fin (plus b i j) n S = fin b n S
  | 0, _, h, _, _ => by omega
  | m + 1, S, hm, hS, hj => by
    rw [fin_sum, fin_sum]
    congr 1
    refine sumUp_congr fun x _ => ?_
    by_cases h1 : S.testBit x = true
    · have hx : x ≠ j := fun e => by rw [e, hj] at h1; cases h1
      have ih := plus_out (n := n) hb hi m (del S x) (by have := del_lt h1; omega) (del_small hS h1) (by rw [del_ne S hx]; exact hj)
      by_cases h2 : Sub (b x) (del S x)
      · rw [lastly_iff (plus_small hb hi) hS h1 (by rw [plus_ne b hx]; exact h2), lastly_iff hb hS h1 h2, ih]
      · rw [lastly_not (plus_small hb hi) hS (by rw [plus_ne b hx]; exact fun k => h2 k.2), lastly_not hb hS (fun k => h2 k.2)]
    · rw [lastly_not (plus_small hb hi) hS (fun k => h1 k.1), lastly_not hb hS (fun k => h1 k.1)]

theorem plus_half {b : Nat → Nat} {n i j S : Nat} (hb : Small b) (hi : i < 16) (hjn : j < n) (hS : S < 65536) (hj : S.testBit j = true) (hi' : S.testBit i = false) : fin (plus b i j) n S = 0 := by
  apply Classical.byContradiction
  intro hne
  have := (fin_down (plus_small hb hi) _ S (Nat.lt_succ_self _) hS hne j hjn hj).1 i (by rw [plus_bit]; simp)
  rw [hi'] at this; cases this

/-- Of two items, the one stands ahead, or the other does. -/
theorem fin_split {b : Nat → Nat} {n i j : Nat} (hb : Small b) (hi : i < n) (hj : j < n) (hn : n ≤ 16) (hij : i ≠ j) : ∀ m S, S < m → S < 65536 → S.testBit i = true → S.testBit j = true → fin b n S = fin (plus b i j) n S + fin (plus b j i) n S
  | 0, _, h, _, _, _ => by omega
  | m + 1, S, hm, hS, hSi, hSj => by
    have ha := plus_small (i := i) (j := j) hb (by omega)
    have hc := plus_small (i := j) (j := i) hb (by omega)
    have h0 : S ≠ 0 := fun e => by rw [e] at hSi; simp at hSi
    rw [fin_eq h0, fin_eq h0, fin_eq h0, ← sumUp_add]
    refine sumUp_congr fun x _ => ?_
    by_cases h1 : S.testBit x = true
    · have hd := del_small hS h1
      by_cases exi : x = i
      · subst exi
        have q0 : (del S x).testBit x = false := del_self h1
        have q1 : (del S x).testBit j = true := by rw [del_ne S hij]; exact hSj
        have e1 : fin (plus b x j) n (del S x) = 0 := plus_half hb (by omega) hj hd q1 q0
        have e2 : fin (plus b j x) n (del S x) = fin b n (del S x) := plus_out hb (by omega) _ _ (Nat.lt_succ_self _) hd q0
        have e3 : lastly (plus b x j) n S x = 0 := by
          by_cases h2 : Sub (plus b x j x) (del S x)
          · rw [lastly_iff ha hS h1 h2, e1]
          · exact lastly_not ha hS (fun k => h2 k.2)
        rw [e3, Nat.zero_add]
        by_cases h2 : Sub (b x) (del S x)
        · rw [lastly_iff hb hS h1 h2, lastly_iff hc hS h1 (fun t ht => by
            rw [plus_bit] at ht
            simp only [Bool.or_eq_true, Bool.and_eq_true, decide_eq_true_eq] at ht
            rcases ht with ht | ⟨_, rfl⟩
            · exact h2 t ht
            · exact q1), e2]
        · rw [lastly_not hb hS (fun k => h2 k.2), lastly_not hc hS (fun k => h2 (fun t ht => k.2 t (by rw [plus_bit, ht]; rfl)))]
      · by_cases exj : x = j
        · subst exj
          have q0 : (del S x).testBit x = false := del_self h1
          have q1 : (del S x).testBit i = true := by rw [del_ne S exi]; exact hSi
          have e1 : fin (plus b x i) n (del S x) = 0 := plus_half hb (by omega) hi hd q1 q0
          have e2 : fin (plus b i x) n (del S x) = fin b n (del S x) := plus_out hb (by omega) _ _ (Nat.lt_succ_self _) hd q0
          have e3 : lastly (plus b x i) n S x = 0 := by
            by_cases h2 : Sub (plus b x i x) (del S x)
            · rw [lastly_iff hc hS h1 h2, e1]
            · exact lastly_not hc hS (fun k => h2 k.2)
          rw [e3, Nat.add_zero]
          by_cases h2 : Sub (b x) (del S x)
          · rw [lastly_iff hb hS h1 h2, lastly_iff ha hS h1 (fun t ht => by
              rw [plus_bit] at ht
              simp only [Bool.or_eq_true, Bool.and_eq_true, decide_eq_true_eq] at ht
              rcases ht with ht | ⟨_, rfl⟩
              · exact h2 t ht
              · exact q1), e2]
          · rw [lastly_not hb hS (fun k => h2 k.2), lastly_not ha hS (fun k => h2 (fun t ht => k.2 t (by rw [plus_bit, ht]; rfl)))]
        · have ih := fin_split hb hi hj hn hij m (del S x) (by have := del_lt h1; omega) hd (by rw [del_ne S exi]; exact hSi) (by rw [del_ne S exj]; exact hSj)
          by_cases h2 : Sub (b x) (del S x)
          · rw [lastly_iff hb hS h1 h2, lastly_iff ha hS h1 (by rw [plus_ne b exj]; exact h2), lastly_iff hc hS h1 (by rw [plus_ne b exi]; exact h2), ih]
          · rw [lastly_not hb hS (fun k => h2 k.2), lastly_not ha hS (by rw [plus_ne b exj]; exact fun k => h2 k.2), lastly_not hc hS (by rw [plus_ne b exi]; exact fun k => h2 k.2)]
    · rw [lastly_not hb hS (fun k => h1 k.1), lastly_not ha hS (fun k => h1 k.1), lastly_not hc hS (fun k => h1 k.1)]
end Go.Proofs.YtecpjeililiafaaDoor
