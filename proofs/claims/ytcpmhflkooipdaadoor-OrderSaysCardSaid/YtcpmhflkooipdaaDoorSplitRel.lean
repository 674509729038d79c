/-
  Plain: the counts of a relation, of its closure, of a relation with one pair more.
-/
import Derived.Test.YtcpmhflkooipdaaDoorSplitPure
import Derived.Test.YtcpmhflkooipdaaDoorCount
import Derived.Test.YtcpmhflkooipdaaDoorErr
namespace Go.Proofs.YtcpmhflkooipdaaDoor
open Go.RowKit
set_option maxRecDepth 20000

theorem all_bit {n x : Nat} (h : x < n) : (all n).testBit x = true := by
  unfold all
  rw [ones_bit]; exact decide_eq_true h
theorem all_lt (n : Nat) : all n < 2 ^ n := by have := Nat.two_pow_pos n; unfold all; omega
theorem all_small {n : Nat} (h : n ≤ 12) : all n < 65536 := Nat.lt_of_lt_of_le (all_lt n) (Nat.pow_le_pow_right (n := 2) (by omega) (show n ≤ 16 by omega))

/-- What is closed downwards under a relation is so under its closure. -/
theorem warsh_follow {n : Nat} {a : Nat → Nat} {U i : Nat} (hi : i < n) (hd : ∀ x, x < n → U.testBit x = true → Sub (rev n a x) U) (hb : Sub (rev n a i) U) :
    ∀ k, k ≤ n → ∀ x y, x < n → y < n → (U.testBit y = true ∨ y = i) → (warsh n a k x).testBit y = true → U.testBit x = true
  | 0, _, x, y, hx, hy, hu, h => by
    rcases hu with hu | rfl
    · exact hd y hy hu x (rev_at.2 ⟨hx, hy, h⟩)
    · exact hb x (rev_at.2 ⟨hx, hi, h⟩)
  | k + 1, hk, x, y, hx, hy, hu, h => by
    have ih := warsh_follow hi hd hb k (by omega)
    change (stepV n (warsh n a k) k x).testBit y = true at h
    rw [stepV_bit n _ k _ _ hx] at h
    simp only [Bool.or_eq_true, Bool.and_eq_true] at h
    rcases h with h | ⟨h1, h2⟩
    · exact ih x y hx hy hu h
    · exact ih x k hx (by omega) (.inl (ih k y (by omega) hy hu h2)) h1

theorem fin_clo {n : Nat} {a : Nat → Nat} (h : Good n a) : fin (rev n (clo n a)) n (all n) = fin (rev n a) n (all n) := by
  refine (fin_follow (rev_lt h.le a) (rev_lt h.le (clo n a)) (by have := h.le; omega) (fun x t ht => ?_) (fun U i hi _ hd hb t ht => ?_) _ (all n) (Nat.lt_succ_self _) (all_lt n)).symm
  · obtain ⟨h1, h2, h3⟩ := rev_at.1 ht
    exact rev_at.2 ⟨h1, h2, clo_has n a t x h3⟩
  · obtain ⟨h1, h2, h3⟩ := rev_at.1 ht
    exact warsh_follow hi hd hb n (Nat.le_refl _) t i h1 h2 (.inr rfl) h3

theorem fin_round {n : Nat} {a : Nat → Nat} (h : Good n a) (hy : cyc (clo n a) n = true) : fin (rev n a) n (all n) = 0 := by
  rw [← fin_clo h]
  apply Classical.byContradiction
  intro hne
  obtain ⟨v, hv, hc⟩ := (cyc_iff _ _).1 hy
  have := (fin_down (rev_lt h.le (clo n a)) _ (all n) (Nat.lt_succ_self _) (all_small h.le) hne v hv (all_bit hv)).2
  rw [rev_at.2 ⟨hv, hv, hc⟩] at this
  cases this

/-- How many orders a relation has. -/
def orders (n : Nat) (a : Nat → Nat) : Nat := fin (rev n a) n (all n)
/-- What Count answers of a relation that Check lets by. -/
theorem count_good {n : Nat} {a : Nat → Nat} (h : Good n a) (w : World) :
    Calls Tryd.prog 7 #[relV n a] w fun e w' => e = .returned (.tuple #[.int .i64 (wrap64 ((orders n a : Nat) : Int)), .int .i64 (if cyc (clo n a) n = true then 4 else 0)]) ∧ Below w.heap.size w w' := by
  cases hy : cyc (clo n a) n with
  | true =>
    have h0 : wrap64 ((orders n a : Nat) : Int) = 0 := by
      unfold orders
      rw [fin_round h hy]
      simp [wrap64]
    rw [h0]
    exact count_err n a 4 w rfl (fails_round h hy)
  | false =>
    have h0 : wrap64 ((orders n a : Nat) : Int) = cntC n (clo n a) := by
      unfold orders cntC
      rw [← fin_clo h]
      exact (tab_fin _ n).symm
    rw [h0]
    exact count_no n a w h hy

/-- One pair more. -/
def put (a : Nat → Nat) (i j : Nat) : Nat → Nat := fun k => if k = i then a i ||| 2 ^ j else a k
theorem put_bit (a : Nat → Nat) (i j k t : Nat) : (put a i j k).testBit t = ((a k).testBit t || (decide (k = i) && decide (j = t))) := by
  unfold put
  by_cases e : k = i
  · subst e; rw [if_pos rfl, Nat.testBit_or, Nat.testBit_two_pow]; simp
  · rw [if_neg e]; simp [e]
theorem Good.put {n : Nat} {a : Nat → Nat} (h : Good n a) {i j : Nat} (hi : i < n) (hj : j < n) : Good n (put a i j) := by
  have hn := h.le
  refine good_of hn (fun k hk => ?_) (fun k hk t ht => ?_) (fun k hk hnk => ?_)
  · unfold Proofs.YtcpmhflkooipdaaDoor.put
    split
    · exact Nat.or_lt_two_pow (n := 16) (h.lt i (by omega)) (Nat.pow_lt_pow_right (by omega) (by omega))
    · exact h.lt k hk
  · rw [put_bit] at ht
    simp only [Bool.or_eq_true, Bool.and_eq_true, decide_eq_true_eq] at ht
    rcases ht with ht | ⟨_, rfl⟩
    · exact h.inn hk ht
    · exact hj
  · unfold Proofs.YtcpmhflkooipdaaDoor.put
    rw [if_neg (by omega)]
    exact h.out hk hnk
theorem rev_put {n : Nat} {a : Nat → Nat} {i j : Nat} (hi : i < n) (hj : j < n) : rev n (put a i j) = plus (rev n a) i j := by
  funext x
  apply Nat.eq_of_testBit_eq
  intro t
  rw [plus_bit, rev_bit, rev_bit, put_bit]
  by_cases e1 : t = i
  · by_cases e2 : x = j
    · subst e1 e2; simp [hi, hj]
    · simp [e2, show ¬ j = x from fun k => e2 k.symm]
  · simp [e1, show ¬ i = t from fun k => e1 k.symm]
theorem orders_split {n : Nat} {a : Nat → Nat} (h : Good n a) {i j : Nat} (hi : i < n) (hj : j < n) (hij : i ≠ j) : orders n a = orders n (put a i j) + orders n (put a j i) := by
  unfold orders
  rw [rev_put hi hj, rev_put hj hi]
  exact fin_split (rev_lt h.le a) hi hj (by have := h.le; omega) hij _ (all n) (Nat.lt_succ_self _) (all_small h.le) (all_bit hi) (all_bit hj)
end Go.Proofs.YtcpmhflkooipdaaDoor
