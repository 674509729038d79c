/-
  Plain: the closure is the least that is closed; a search from one item that ends has found all of it.
-/
import Derived.Test.YtcpmhflkooipdaaDoorGood
namespace Go.Proofs.YtcpmhflkooipdaaDoor
open Go.RowKit
set_option maxRecDepth 20000

/-- Whatever holds for all steps, and may be joined, holds for the closure. -/
theorem warsh_min {n : Nat} {a : Nat → Nat} {R : Nat → Nat → Prop} (h0 : ∀ i, i < n → ∀ j, (a i).testBit j = true → R i j)
    (ht : ∀ i v j, R i v → R v j → R i j) : ∀ k, k ≤ n → ∀ i, i < n → ∀ j, (warsh n a k i).testBit j = true → R i j
  | 0, _ => h0
  | k + 1, hk => fun i hi j hj => by
    change (stepV n (warsh n a k) k i).testBit j = true at hj
    rw [stepV_bit n _ k _ _ hi] at hj
    simp only [Bool.or_eq_true, Bool.and_eq_true] at hj
    rcases hj with h1 | ⟨h1, h2⟩
    · exact warsh_min h0 ht k (by omega) i hi j h1
    · exact ht i k j (warsh_min h0 ht k (by omega) i hi k h1) (warsh_min h0 ht k (by omega) k (by omega) j h2)
theorem clo_min {n : Nat} {a : Nat → Nat} {R : Nat → Nat → Prop} (h0 : ∀ i, i < n → ∀ j, (a i).testBit j = true → R i j)
    (ht : ∀ i v j, R i v → R v j → R i j) {i : Nat} (hi : i < n) {j : Nat} (hj : (clo n a i).testBit j = true) : R i j := warsh_min h0 ht n (Nat.le_refl _) i hi j hj

/-- A search from i for j: what was seen, what is left to do; of item k the first m steps have been gone. -/
structure Srch (n : Nat) (a : Nat → Nat) (i j : Nat) (S : Nat → Bool) (l : List Nat) (k m : Nat) : Prop where
  seen : ∀ x, S x = true → x < n ∧ (clo n a i).testBit x = true ∧ x ≠ j
  todo : ∀ x, x ∈ l → x < n ∧ (x = i ∨ S x = true)
  cur : k < n ∧ (k = i ∨ S k = true)
  done : ∀ x, (x = i ∨ S x = true) → x ∈ l ∨ (x = k ∧ ∀ y, y < m → (a k).testBit y = true → S y = true) ∨ ∀ y, (a x).testBit y = true → S y = true

section
variable {n i j k m : Nat} {a : Nat → Nat} {S : Nat → Bool} {l : List Nat}
theorem Srch.first (hi : i < n) : Srch n a i j (fun _ => false) [] i 0 :=
  ⟨fun _ h => absurd h (by decide), fun _ h => absurd h (by simp), ⟨hi, .inl rfl⟩, fun x h => by
    rcases h with rfl | h
    · exact .inr (.inl ⟨rfl, fun y hy => by omega⟩)
    · cases h⟩
/-- All steps of k have been gone: to the next one. -/
theorem Srch.pop {k' : Nat} (hG : Good n a) (h : Srch n a i j S (k' :: l) k n) : Srch n a i j S l k' 0 := by
  refine ⟨h.seen, fun x hx => h.todo x (List.mem_cons_of_mem _ hx), h.todo k' (by simp), fun x hx => ?_⟩
  rcases h.done x hx with h1 | ⟨rfl, h1⟩ | h1
  · rcases List.mem_cons.1 h1 with rfl | h1
    · exact .inr (.inl ⟨rfl, fun y hy => by omega⟩)
    · exact .inl h1
  · refine .inr (.inr fun y hy => h1 y ?_ hy)
    exact hG.inn (Nat.lt_of_lt_of_le h.cur.1 hG.le) hy
  · exact .inr (.inr h1)
/-- Nothing is left: j is not come to. -/
theorem Srch.no (hG : Good n a) (hi : i < n) (h : Srch n a i j S [] k n) : (clo n a i).testBit j = false := by
  have hc : ∀ x, (x = i ∨ S x = true) → ∀ y, (a x).testBit y = true → S y = true := fun x hx => by
    rcases h.done x hx with h1 | ⟨rfl, h1⟩ | h1
    · simp at h1
    · exact fun y hy => h1 y (hG.inn (Nat.lt_of_lt_of_le h.cur.1 hG.le) hy) hy
    · exact h1
  cases hj : (clo n a i).testBit j with
  | false => rfl
  | true =>
    have := clo_min (R := fun u v => (u = i ∨ S u = true) → S v = true) (fun u _ v huv hu => hc u hu v huv) (fun u v w h1 h2 hu => h2 (.inr (h1 hu))) hi hj
    exact absurd rfl (h.seen j (this (.inl rfl))).2.2
theorem Srch.step_in (h : Srch n a i j S l k m) (hi : i < n) {y : Nat} (hy : (a k).testBit y = true) : (clo n a i).testBit y = true := by
  rcases h.cur.2 with e | e
  · rw [e] at hy; exact clo_has n a i y hy
  · exact clo_trans n a i hi k h.cur.1 (h.seen k e).2.1 y (clo_has n a k y hy)
/-- The m-th step leads nowhere, or to what was seen. -/
theorem Srch.skip (h : Srch n a i j S l k m) (hm : (a k).testBit m = false ∨ S m = true) : Srch n a i j S l k (m + 1) := by
  refine ⟨h.seen, h.todo, h.cur, fun x hx => ?_⟩
  rcases h.done x hx with h1 | ⟨h0, h1⟩ | h1
  · exact .inl h1
  · refine .inr (.inl ⟨h0, fun y hy hk => ?_⟩)
    rcases Nat.lt_or_ge y m with hl | hl
    · exact h1 y hl hk
    · obtain rfl : y = m := by omega
      rcases hm with hm | hm
      · rw [hm] at hk; cases hk
      · exact hm
  · exact .inr (.inr h1)
/-- The m-th step leads to something new. -/
theorem Srch.push (h : Srch n a i j S l k m) (hi : i < n) (hmn : m < n) (hm : (a k).testBit m = true) (hj : m ≠ j) : Srch n a i j (fun x => if x = m then true else S x) (l ++ [m]) k (m + 1) := by
  have hs : ∀ y, S y = true → (if y = m then true else S y) = true := fun y hy => by split <;> simp [hy]
  refine ⟨fun x hx => ?_, fun x hx => ?_, ⟨h.cur.1, h.cur.2.imp id (hs k)⟩, fun x hx => ?_⟩
  · by_cases e : x = m
    · subst e; exact ⟨hmn, h.step_in hi hm, hj⟩
    · rw [if_neg e] at hx; exact h.seen x hx
  · rcases List.mem_append.1 hx with hx | hx
    · exact ⟨(h.todo x hx).1, (h.todo x hx).2.imp id (hs x)⟩
    · have e : x = m := by simpa using hx
      subst e
      exact ⟨hmn, .inr (by simp)⟩
  · by_cases e : x = m
    · subst e; exact .inl (by simp)
    · have hx' : x = i ∨ S x = true := by
        rcases hx with hx | hx
        · exact .inl hx
        · rw [if_neg e] at hx; exact .inr hx
      rcases h.done x hx' with h1 | ⟨h0, h1⟩ | h1
      · exact .inl (List.mem_append_left _ h1)
      · refine .inr (.inl ⟨h0, fun y hy hk => ?_⟩)
        by_cases ey : y = m
        · rw [if_pos ey]
        · exact hs y (h1 y (by omega) hk)
      · exact .inr (.inr fun y hy => hs y (h1 y hy))
end

/-- How many of the first n were not seen. -/
def unseen (S : Nat → Bool) : Nat → Nat
  | 0 => 0
  | n + 1 => unseen S n + if S n = true then 0 else 1
theorem unseen_le (S : Nat → Bool) : ∀ n, unseen S n ≤ n
  | 0 => Nat.le_refl _
  | n + 1 => by
    have := unseen_le S n
    unfold unseen
    split <;> omega
theorem unseen_far (S : Nat → Bool) (m : Nat) : ∀ n, n ≤ m → unseen (fun x => if x = m then true else S x) n = unseen S n
  | 0, _ => rfl
  | n + 1, h => by
    unfold unseen
    rw [unseen_far S m n (by omega)]
    simp [show n ≠ m by omega]
theorem unseen_push (S : Nat → Bool) (m : Nat) (hS : S m = false) : ∀ n, m < n → unseen (fun x => if x = m then true else S x) n + 1 = unseen S n
  | 0, h => by omega
  | n + 1, h => by
    unfold unseen
    by_cases e : m = n
    · subst e
      rw [unseen_far S m m (Nat.le_refl _)]
      simp [hS]
    · have := unseen_push S m hS n (by omega)
      simp only [if_neg (Ne.symm e)]
      omega
end Go.Proofs.YtcpmhflkooipdaaDoor
