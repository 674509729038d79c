/-
  Plain: the orders of all, counted by who comes first, and by who comes last: it is the same number.
-/
import Derived.Test.YtcpmhflkooipdaaDoorFin
namespace Go.Proofs.YtcpmhflkooipdaaDoor
open Go.RowKit
set_option maxRecDepth 20000

theorem sumUp_swap (f : Nat → Nat → Nat) (m : Nat) : ∀ n, sumUp (fun i => sumUp (fun j => f i j) m) n = sumUp (fun j => sumUp (fun i => f i j) n) m
  | 0 => (sumUp_zero fun _ _ => rfl).symm
  | n + 1 => by
    rw [sumUp, sumUp_swap f m n, ← sumUp_add]
    rfl
theorem sumUp_if (c : Bool) (f : Nat → Nat) (m : Nat) : (if c = true then sumUp f m else 0) = sumUp (fun j => if c = true then f j else 0) m := by
  cases c
  · simp; exact (sumUp_zero fun _ _ => rfl).symm
  · simp

/-- Item j may come behind D. -/
def firstB (b : Nat → Nat) (D j : Nat) : Bool := !D.testBit j && decide (b j &&& (65535 - D) = 0)
/-- Item i may be the last of S. -/
def lastB (b : Nat → Nat) (S i : Nat) : Bool := S.testBit i && decide (b i &&& (65535 - del S i) = 0)
/-- In how many ways one comes from D to S. -/
def finF (b : Nat → Nat) (n D S : Nat) : Nat :=
  if S = D then 1 else sumUp (fun i => if _h : lastB b S i = true then finF b n D (del S i) else 0) n
termination_by S
decreasing_by exact del_lt (by rw [lastB, Bool.and_eq_true] at _h; exact _h.1)

theorem finF_self (b : Nat → Nat) (n D : Nat) : finF b n D D = 1 := by rw [finF, if_pos rfl]
theorem finF_ne {b : Nat → Nat} {n D S : Nat} (h : S ≠ D) : finF b n D S = sumUp (fun i => if lastB b S i = true then finF b n D (del S i) else 0) n := by
  rw [finF, if_neg h]
  refine sumUp_congr fun i _ => ?_
  by_cases hb : lastB b S i = true <;> simp [hb]
theorem fin_finF (b : Nat → Nat) (n : Nat) : ∀ m S, S < m → fin b n S = finF b n 0 S
  | 0, S, h => by omega
  | m + 1, S, h => by
    by_cases e : S = 0
    · subst e; rw [fin_zero, finF_self]
    · rw [fin_eq e, finF_ne e]
      refine sumUp_congr fun i _ => ?_
      unfold lastly lastB
      by_cases hb : S.testBit i = true
      · rw [fin_finF b n m (del S i) (by have := del_lt hb; omega)]
        simp [hb]
      · simp [hb]
/-- From what has an item that S lacks one doesn't come to S. -/
theorem finF_out {b : Nat → Nat} {n D x : Nat} (hD : D.testBit x = true) : ∀ m S, S < m → S.testBit x = false → finF b n D S = 0
  | 0, S, h, _ => by omega
  | m + 1, S, h, hS => by
    rw [finF_ne (fun e => by rw [e, hD] at hS; cases hS)]
    refine sumUp_zero fun i _ => ?_
    by_cases hb : lastB b S i = true
    · rw [if_pos hb]
      have hSi : S.testBit i = true := by rw [lastB, Bool.and_eq_true] at hb; exact hb.1
      refine finF_out hD m (del S i) (by have := del_lt hSi; omega) ?_
      cases hx : (del S i).testBit x with
      | false => rfl
      | true => rw [del_sub hSi hx] at hS; cases hS
    · rw [if_neg hb]
theorem del_eq {D S i : Nat} : (S.testBit i = true ∧ del S i = D) ↔ (D.testBit i = false ∧ S = D ||| 2 ^ i) := by
  constructor
  · rintro ⟨h1, rfl⟩
    exact ⟨del_self h1, (or_del h1).symm⟩
  · rintro ⟨h1, rfl⟩
    exact ⟨by simp, del_or h1⟩

/-- By the last one, or by the first one. -/
theorem finF_first {b : Nat → Nat} {n D : Nat} : ∀ m S, S < m → S ≠ D → finF b n D S = sumUp (fun j => if firstB b D j = true then finF b n (D ||| 2 ^ j) S else 0) n
  | 0, S, h, _ => by omega
  | m + 1, S, h, hne => by
    have hl : finF b n D S = sumUp (fun i => (if lastB b S i = true ∧ del S i = D then 1 else 0) + sumUp (fun j => if lastB b S i = true ∧ firstB b D j = true then finF b n (D ||| 2 ^ j) (del S i) else 0) n) n := by
      rw [finF_ne hne]
      refine sumUp_congr fun i _ => ?_
      by_cases hb : lastB b S i = true
      · have hSi : S.testBit i = true := by rw [lastB, Bool.and_eq_true] at hb; exact hb.1
        rw [if_pos hb]
        by_cases e : del S i = D
        · rw [if_pos ⟨hb, e⟩, e, finF_self, sumUp_zero]
          intro j _
          by_cases hf : firstB b D j = true
          · rw [if_pos ⟨hb, hf⟩]
            refine finF_out (x := j) (by simp) (D + 1) D (Nat.lt_succ_self _) ?_
            rw [firstB, Bool.and_eq_true] at hf
            simpa using hf.1
          · rw [if_neg (fun h => hf h.2)]
        · rw [if_neg (fun h => e h.2), Nat.zero_add, finF_first m (del S i) (by have := del_lt hSi; omega) e]
          refine sumUp_congr fun j _ => ?_
          simp [hb]
      · rw [if_neg hb, if_neg (fun h => hb h.1), Nat.zero_add, sumUp_zero]
        intro j _
        rw [if_neg (fun h => hb h.1)]
    have hr : ∀ j, (if firstB b D j = true then finF b n (D ||| 2 ^ j) S else 0) = (if firstB b D j = true ∧ S = D ||| 2 ^ j then 1 else 0) + sumUp (fun i => if lastB b S i = true ∧ firstB b D j = true then finF b n (D ||| 2 ^ j) (del S i) else 0) n := by
      intro j
      by_cases hf : firstB b D j = true
      · rw [if_pos hf]
        by_cases e : S = D ||| 2 ^ j
        · rw [if_pos ⟨hf, e⟩, ← e, finF_self, sumUp_zero]
          intro i _
          by_cases hb : lastB b S i = true
          · rw [if_pos ⟨hb, hf⟩]
            have hSi : S.testBit i = true := by rw [lastB, Bool.and_eq_true] at hb; exact hb.1
            exact finF_out (x := i) hSi (del S i + 1) _ (Nat.lt_succ_self _) (del_self hSi)
          · rw [if_neg (fun h => hb h.1)]
        · rw [if_neg (fun h => e h.2), Nat.zero_add, finF_ne e]
          refine sumUp_congr fun i _ => ?_
          simp [hf]
      · rw [if_neg hf, if_neg (fun h => hf h.1), Nat.zero_add, sumUp_zero]
        intro i _
        rw [if_neg (fun h => hf h.2)]
    rw [hl, sumUp_congr (fun j _ => hr j), sumUp_add, sumUp_add, sumUp_swap]
    congr 1
    refine sumUp_congr fun i _ => ?_
    have : (lastB b S i = true ∧ del S i = D) ↔ (firstB b D i = true ∧ S = D ||| 2 ^ i) := by
      unfold lastB firstB
      simp only [Bool.and_eq_true, Bool.not_eq_true', decide_eq_true_eq]
      constructor
      · rintro ⟨⟨h1, h2⟩, h3⟩
        obtain ⟨h4, h5⟩ := del_eq.1 ⟨h1, h3⟩
        rw [h3] at h2
        exact ⟨⟨h4, h2⟩, h5⟩
      · rintro ⟨⟨h1, h2⟩, h3⟩
        obtain ⟨h4, h5⟩ := del_eq.2 ⟨h1, h3⟩
        rw [← h5] at h2
        exact ⟨⟨h4, h2⟩, h5⟩
    by_cases hc : lastB b S i = true ∧ del S i = D
    · rw [if_pos hc, if_pos (this.1 hc)]
    · rw [if_neg hc, if_neg (fun h => hc (this.2 h))]

/-- The orders that begin so: f items are left. -/
def ordC (b : Nat → Nat) (n : Nat) : Nat → Nat → Nat
  | 0, _ => 1
  | f + 1, D => sumUp (fun j => if firstB b D j = true then ordC b n f (D ||| 2 ^ j) else 0) n
end Go.Proofs.YtcpmhflkooipdaaDoor
