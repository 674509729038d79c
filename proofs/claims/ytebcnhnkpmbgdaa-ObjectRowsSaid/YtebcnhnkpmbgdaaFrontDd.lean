/-
  Plain mathematics: a play goes on.
-/
import Derived.Test.YtebcnhnkpmbgdaaObjPlay
namespace Go.Proofs.Ytebcnhnkpmbgdaa
open Go.RowKit
set_option maxRecDepth 20000

theorem playFrom_le (typ : Int) : ∀ (l : List Dd) (s : List Int), playFrom typ s l ≤ l.length
  | [], s => Nat.le_refl _
  | d :: r, s => by
    rw [playFrom]
    split
    · exact Nat.zero_le _
    · have := playFrom_le typ r (stepO typ s d.kind d.arg).1
      simp only [List.length_cons]
      omega
theorem playFrom_app (typ : Int) : ∀ (l : List Dd) (s : List Int) (r : List Dd), playFrom typ s (l ++ r) = if playFrom typ s l < l.length then playFrom typ s l else l.length + playFrom typ (stateFrom typ s l) r
  | [], s, r => by
    simp [playFrom, stateFrom]
  | d :: l, s, r => by
    rw [List.cons_append, playFrom, playFrom]
    by_cases h : (stepO typ s d.kind d.arg).2.2 ≠ 0 ∨ (stepO typ s d.kind d.arg).2.1 ≠ d.res
    · rw [if_pos h, if_pos h, if_pos (by simp)]
    · rw [if_neg h, if_neg h, playFrom_app typ l]
      have e : stateFrom typ s (d :: l) = stateFrom typ (stepO typ s d.kind d.arg).1 l := rfl
      rw [e]
      by_cases h2 : playFrom typ (stepO typ s d.kind d.arg).1 l < l.length
      · rw [if_pos h2, if_pos (by simp only [List.length_cons]; omega)]
      · rw [if_neg h2, if_neg (by simp only [List.length_cons]; omega)]
        simp only [List.length_cons]
        omega
theorem play_one (typ : Int) (s : List Int) (d : Dd) : playFrom typ s [d] = if (stepO typ s d.kind d.arg).2.2 ≠ 0 ∨ (stepO typ s d.kind d.arg).2.1 ≠ d.res then 0 else 1 := by
  rw [playFrom]
  split <;> rfl
theorem wrap_ne (x : Int) : wrap64 (x + 1) ≠ x := by
  intro h
  rw [← IntWalk.i64_left] at h
  rw [IntKind.wrap_i64] at h
  omega
/-- How a play goes on by one more. -/
theorem play_more (typ : Int) (l : List Dd) (d : Dd) : playN typ l ≤ l.length ∧ (playN typ l < l.length → playN typ (l ++ [d]) = playN typ l) ∧ (playN typ l = l.length → playN typ (l ++ [d]) = l.length ∨ playN typ (l ++ [d]) = l.length + 1) := by
  refine ⟨playFrom_le _ _ _, fun h => ?_, fun h => ?_⟩
  · unfold playN at h ⊢
    rw [playFrom_app, if_pos h]
  · unfold playN at h ⊢
    rw [playFrom_app, if_neg (by omega), play_one]
    split
    · exact .inl rfl
    · exact .inr rfl
/-- With another answer it does not go on. -/
theorem play_other (typ : Int) (l : List Dd) (d : Dd) (y : Int) (hy : y ≠ d.res) (h : playN typ (l ++ [d]) = l.length + 1) : playN typ (l ++ [{ d with res := y }]) = l.length := by
  unfold playN at h ⊢
  rw [playFrom_app] at h ⊢
  have hle := playFrom_le typ l (beginL typ)
  by_cases h1 : playFrom typ (beginL typ) l < l.length
  · rw [if_pos h1] at h
    omega
  · rw [if_neg h1] at h ⊢
    rw [play_one] at h ⊢
    by_cases h2 : (stepO typ (stateFrom typ (beginL typ) l) d.kind d.arg).2.2 ≠ 0 ∨ (stepO typ (stateFrom typ (beginL typ) l) d.kind d.arg).2.1 ≠ d.res
    · rw [if_pos h2] at h
      omega
    · have h3 := not_or.1 h2
      rw [if_pos (Or.inr (by
        show (stepO typ (stateFrom typ (beginL typ) l) d.kind d.arg).2.1 ≠ y
        intro e
        exact h3.2 (fun e2 => hy (e.symm.trans e2))))]
      rfl
end Go.Proofs.Ytebcnhnkpmbgdaa
