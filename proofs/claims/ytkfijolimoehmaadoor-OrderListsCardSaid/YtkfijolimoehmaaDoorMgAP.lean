/-
  Joined by a program out of: SplitPure, SplitRel.
-/
import Derived.Test.YtkfijolimoehmaaDoorMgAO
import Derived.Test.YtkfijolimoehmaaDoorMgAG
import Derived.Test.YtkfijolimoehmaaDoorMgAC

/-
  Plain: orders of a relation and of its closure are as many; of two items, those in which the one stands ahead, and those in which the other does, are all.
-/
namespace Go.Proofs.YtkfijolimoehmaaDoor
open Go.RowKit
set_option maxRecDepth 20000

def Small (b : Nat → Nat) : Prop := ∀ i, b i < 65536
def Sub (x y : Nat) : Prop := ∀ t, x.testBit t = true → y.testBit t = true
theorem within_iff {x y : Nat} (hx : x < 65536) (hy : y < 65536) : x &&& (65535 - y) = 0 ↔ Sub x y := ⟨fun h t ht => sub_of_zero hx hy h t ht, fun h => sub_zero hy h⟩
theorem del_small {S i : Nat} (hS : S < 65536) (h : S.testBit i = true) : del S i < 65536 := Nat.lt_trans (del_lt h) hS
theorem lastly_iff {b : Nat → Nat} {n S i : Nat} (hb : Small b) (hS : S < 65536) (h : S.testBit i = true) (hs : Sub (b i) (del S i)) : lastly b n S i = fin b n (del S i) := by
  unfold lastly
  rw [if_pos ⟨h, (within_iff (hb i) (del_small hS h)).2 hs⟩]
theorem lastly_not {b : Nat → Nat} {n S i : Nat} (hb : Small b) (hS : S < 65536) (hs : ¬ (S.testBit i = true ∧ Sub (b i) (del S i))) : lastly b n S i = 0 := by
  unfold lastly
  rw [if_neg]
  rintro ⟨h, hw⟩
  exact hs ⟨h, (within_iff (hb i) (del_small hS h)).1 hw⟩
theorem lastly_ne {b : Nat → Nat} {n S i : Nat} (hb : Small b) (hS : S < 65536) (h : lastly b n S i ≠ 0) : S.testBit i = true ∧ Sub (b i) (del S i) ∧ fin b n (del S i) ≠ 0 := by
  by_cases hc : S.testBit i = true ∧ Sub (b i) (del S i)
  · exact ⟨hc.1, hc.2, by rwa [lastly_iff hb hS hc.1 hc.2] at h⟩
  · exact absurd (lastly_not hb hS hc) h

/-- What is ordered is closed downwards, and none stands ahead of itself. -/
theorem fin_down {b : Nat → Nat} {n : Nat} (hb : Small b) : ∀ m S, S < m → S < 65536 → fin b n S ≠ 0 → ∀ x, x < n → S.testBit x = true → Sub (b x) S ∧ (b x).testBit x = false
  | 0, _, h, _, _ => by omega
  | m + 1, S, hm, hS, hf => by
    intro x hx hSx
    have h0 : S ≠ 0 := fun e => by rw [e] at hSx; simp at hSx
    rw [fin_eq h0] at hf
    obtain ⟨i, _, hi⟩ := sumUp_ne hf
    obtain ⟨h1, h2, h3⟩ := lastly_ne hb hS hi
    by_cases e : x = i
    · subst e
      refine ⟨fun t ht => del_sub h1 (h2 t ht), ?_⟩
      cases hx' : (b x).testBit x
      · rfl
      · have := h2 x hx'
        rw [del_self h1] at this; cases this
    · obtain ⟨k1, k2⟩ := fin_down hb m (del S i) (by have := del_lt h1; omega) (del_small hS h1) h3 x hx (by rw [del_ne S (fun k => e k.symm)]; exact hSx)
      exact ⟨fun t ht => del_sub h1 (k1 t ht), k2⟩

/-- Two relations of which the one follows from the other have as many orders. -/
theorem fin_follow {b c : Nat → Nat} {n : Nat} (hb : Small b) (hc : Small c) (hn : n ≤ 16) (hsub : ∀ x, Sub (b x) (c x))
    (hfol : ∀ U i, i < n → U < 2 ^ n → (∀ x, x < n → U.testBit x = true → Sub (b x) U) → Sub (b i) U → Sub (c i) U) : ∀ m S, S < m → S < 2 ^ n → fin b n S = fin c n S
  | 0, _, h, _ => by omega
  | m + 1, S, hm, hS => by
    have hp : 2 ^ n ≤ 2 ^ 16 := Nat.pow_le_pow_right (by omega) hn
    have hS' : S < 65536 := Nat.lt_of_lt_of_le hS hp
    rw [fin_sum, fin_sum]
    congr 1
    refine sumUp_congr fun i hi => ?_
    by_cases h1 : S.testBit i = true
    · have ih := fin_follow hb hc hn hsub hfol m (del S i) (by have := del_lt h1; omega) (Nat.lt_trans (del_lt h1) hS)
      by_cases h2 : Sub (b i) (del S i)
      · rw [lastly_iff hb hS' h1 h2]
        by_cases h3 : fin b n (del S i) = 0
        · by_cases h4 : Sub (c i) (del S i)
          · rw [lastly_iff hc hS' h1 h4, ih]
          · rw [lastly_not hc hS' (fun k => h4 k.2), h3]
        · have hd := fin_down hb _ (del S i) (Nat.lt_succ_self _) (del_small hS' h1) h3
          rw [lastly_iff hc hS' h1 (hfol (del S i) i hi (Nat.lt_trans (del_lt h1) hS) (fun x hx hb => (hd x hx hb).1) h2), ih]
      · rw [lastly_not hb hS' (fun k => h2 k.2), lastly_not hc hS' (fun k => h2 (fun t ht => k.2 t (hsub i t ht)))]
    · rw [lastly_not hb hS' (fun k => h1 k.1), lastly_not hc hS' (fun k => h1 k.1)]
termination_by m => m

/-- One pair more: whoever stands ahead of j, and i besides. -/
def plus (b : Nat → Nat) (i j : Nat) : Nat → Nat := fun x => if x = j then b x ||| 2 ^ i else b x
theorem plus_bit (b : Nat → Nat) (i j x t : Nat) : (plus b i j x).testBit t = ((b x).testBit t || (decide (x = j) && decide (i = t))) := by
  unfold plus
  by_cases e : x = j
  · rw [if_pos e, Nat.testBit_or, Nat.testBit_two_pow]; simp [e]
  · rw [if_neg e]; simp [e]
theorem plus_ne (b : Nat → Nat) {i j x : Nat} (h : x ≠ j) : plus b i j x = b x := by unfold plus; rw [if_neg h]
theorem plus_small {b : Nat → Nat} (hb : Small b) {i j : Nat} (hi : i < 16) : Small (plus b i j) := fun x => by
  unfold plus
  split
  · exact Nat.or_lt_two_pow (n := 16) (hb x) (Nat.pow_lt_pow_right (by omega) hi)
  · exact hb x

theorem plus_out {b : Nat → Nat} {n i j : Nat} (hb : Small b) (hi : i < 16) : ∀ m S, S < m → S < 65536 → S.testBit j = false → fin (plus b i j) n S = fin b n S
  | 0, _, h, _, _ => by omega
  | m + 1, S, hm, hS, hj => by
    rw [fin_sum, fin_sum]
    congr 1
    refine sumUp_congr fun x _ => ?_
    by_cases h1 : S.testBit x = true
    · have hx : x ≠ j := fun e => by rw [e, hj] at h1; cases h1
      have ih := plus_out (n := n) hb hi m (del S x) (by have := del_lt h1; omega) (del_small hS h1) (by rw [del_ne S hx]; exact hj)
      by_cases h2 : Sub (b x) (del S x)
      · rw [lastly_iff (plus_small hb hi) hS h1 (by rw [plus_ne b hx]; exact h2), lastly_iff hb hS h1 h2, ih]
      · rw [lastly_not (plus_small hb hi) hS (by rw [plus_ne b hx]; exact fun k => h2 k.2), lastly_not hb hS (fun k => h2 k.2)]
    · rw [lastly_not (plus_small hb hi) hS (fun k => h1 k.1), lastly_not hb hS (fun k => h1 k.1)]

theorem plus_half {b : Nat → Nat} {n i j S : Nat} (hb : Small b) (hi : i < 16) (hjn : j < n) (hS : S < 65536) (hj : S.testBit j = true) (hi' : S.testBit i = false) : fin (plus b i j) n S = 0 := by
  apply Classical.byContradiction
  intro hne
  have := (fin_down (plus_small hb hi) _ S (Nat.lt_succ_self _) hS hne j hjn hj).1 i (by rw [plus_bit]; simp)
  rw [hi'] at this; cases this

/-- Of two items, the one stands ahead, or the other does. -/
theorem fin_split {b : Nat → Nat} {n i j : Nat} (hb : Small b) (hi : i < n) (hj : j < n) (hn : n ≤ 16) (hij : i ≠ j) : ∀ m S, S < m → S < 65536 → S.testBit i = true → S.testBit j = true → fin b n S = fin (plus b i j) n S + fin (plus b j i) n S
  | 0, _, h, _, _, _ => by omega
  | m + 1, S, hm, hS, hSi, hSj => by
    have ha := plus_small (i := i) (j := j) hb (by omega)
    have hc := plus_small (i := j) (j := i) hb (by omega)
    have h0 : S ≠ 0 := fun e => by rw [e] at hSi; simp at hSi
    rw [fin_eq h0, fin_eq h0, fin_eq h0, ← sumUp_add]
    refine sumUp_congr fun x _ => ?_
    by_cases h1 : S.testBit x = true
    · have hd := del_small hS h1
      by_cases exi : x = i
      · subst exi
        have q0 : (del S x).testBit x = false := del_self h1
        have q1 : (del S x).testBit j = true := by rw [del_ne S hij]; exact hSj
        have e1 : fin (plus b x j) n (del S x) = 0 := plus_half hb (by omega) hj hd q1 q0
        have e2 : fin (plus b j x) n (del S x) = fin b n (del S x) := plus_out hb (by omega) _ _ (Nat.lt_succ_self _) hd q0
        have e3 : lastly (plus b x j) n S x = 0 := by
          by_cases h2 : Sub (plus b x j x) (del S x)
          · rw [lastly_iff ha hS h1 h2, e1]
          · exact lastly_not ha hS (fun k => h2 k.2)
        rw [e3, Nat.zero_add]
        by_cases h2 : Sub (b x) (del S x)
        · rw [lastly_iff hb hS h1 h2, lastly_iff hc hS h1 (fun t ht => by
            rw [plus_bit] at ht
            simp only [Bool.or_eq_true, Bool.and_eq_true, decide_eq_true_eq] at ht
            rcases ht with ht | ⟨_, rfl⟩
            · exact h2 t ht
            · exact q1), e2]
        · rw [lastly_not hb hS (fun k => h2 k.2), lastly_not hc hS (fun k => h2 (fun t ht => k.2 t (by rw [plus_bit, ht]; rfl)))]
      · by_cases exj : x = j
        · subst exj
          have q0 : (del S x).testBit x = false := del_self h1
          have q1 : (del S x).testBit i = true := by rw [del_ne S exi]; exact hSi
          have e1 : fin (plus b x i) n (del S x) = 0 := plus_half hb (by omega) hi hd q1 q0
          have e2 : fin (plus b i x) n (del S x) = fin b n (del S x) := plus_out hb (by omega) _ _ (Nat.lt_succ_self _) hd q0
          have e3 : lastly (plus b x i) n S x = 0 := by
            by_cases h2 : Sub (plus b x i x) (del S x)
            · rw [lastly_iff hc hS h1 h2, e1]
            · exact lastly_not hc hS (fun k => h2 k.2)
          rw [e3, Nat.add_zero]
          by_cases h2 : Sub (b x) (del S x)
          · rw [lastly_iff hb hS h1 h2, lastly_iff ha hS h1 (fun t ht => by
              rw [plus_bit] at ht
              simp only [Bool.or_eq_true, Bool.and_eq_true, decide_eq_true_eq] at ht
              rcases ht with ht | ⟨_, rfl⟩
              · exact h2 t ht
              · exact q1), e2]
          · rw [lastly_not hb hS (fun k => h2 k.2), lastly_not ha hS (fun k => h2 (fun t ht => k.2 t (by rw [plus_bit, ht]; rfl)))]
        · have ih := fin_split hb hi hj hn hij m (del S x) (by have := del_lt h1; omega) hd (by rw [del_ne S exi]; exact hSi) (by rw [del_ne S exj]; exact hSj)
          by_cases h2 : Sub (b x) (del S x)
          · rw [lastly_iff hb hS h1 h2, lastly_iff ha hS h1 (by rw [plus_ne b exj]; exact h2), lastly_iff hc hS h1 (by rw [plus_ne b exi]; exact h2), ih]
          · rw [lastly_not hb hS (fun k => h2 k.2), lastly_not ha hS (by rw [plus_ne b exj]; exact fun k => h2 k.2), lastly_not hc hS (by rw [plus_ne b exi]; exact fun k => h2 k.2)]
    · rw [lastly_not hb hS (fun k => h1 k.1), lastly_not ha hS (fun k => h1 k.1), lastly_not hc hS (fun k => h1 k.1)]
end Go.Proofs.YtkfijolimoehmaaDoor

/-
  Plain: the counts of a relation, of its closure, of a relation with one pair more.
-/
namespace Go.Proofs.YtkfijolimoehmaaDoor
open Go.RowKit
set_option maxRecDepth 20000

theorem all_bit {n x : Nat} (h : x < n) : (all n).testBit x = true := by
  unfold all
  rw [ones_bit]; exact decide_eq_true h
theorem all_lt (n : Nat) : all n < 2 ^ n := by have := Nat.two_pow_pos n; unfold all; omega
theorem all_small {n : Nat} (h : n ≤ 12) : all n < 65536 := Nat.lt_of_lt_of_le (all_lt n) (Nat.pow_le_pow_right (n := 2) (by omega) (show n ≤ 16 by omega))

/-- What is closed downwards under a relation is so under its closure. -/
theorem warsh_follow {n : Nat} {a : Nat → Nat} {U i : Nat} (hi : i < n) (hd : ∀ x, x < n → U.testBit x = true → Sub (rev n a x) U) (hb : Sub (rev n a i) U) :
    ∀ k, k ≤ n → ∀ x y, x < n → y < n → (U.testBit y = true ∨ y = i) → (warsh n a k x).testBit y = true → U.testBit x = true
  | 0, _, x, y, hx, hy, hu, h => by
    rcases hu with hu | rfl
    · exact hd y hy hu x (rev_at.2 ⟨hx, hy, h⟩)
    · exact hb x (rev_at.2 ⟨hx, hi, h⟩)
  | k + 1, hk, x, y, hx, hy, hu, h => by
    have ih := warsh_follow hi hd hb k (by omega)
    change (stepV n (warsh n a k) k x).testBit y = true at h
    rw [stepV_bit n _ k _ _ hx] at h
    simp only [Bool.or_eq_true, Bool.and_eq_true] at h
    rcases h with h | ⟨h1, h2⟩
    · exact ih x y hx hy hu h
    · exact ih x k hx (by omega) (.inl (ih k y (by omega) hy hu h2)) h1

theorem fin_clo {n : Nat} {a : Nat → Nat} (h : Good n a) : fin (rev n (clo n a)) n (all n) = fin (rev n a) n (all n) := by
  refine (fin_follow (rev_lt h.le a) (rev_lt h.le (clo n a)) (by have := h.le; omega) (fun x t ht => ?_) (fun U i hi _ hd hb t ht => ?_) _ (all n) (Nat.lt_succ_self _) (all_lt n)).symm
  · obtain ⟨h1, h2, h3⟩ := rev_at.1 ht
    exact rev_at.2 ⟨h1, h2, clo_has n a t x h3⟩
  · obtain ⟨h1, h2, h3⟩ := rev_at.1 ht
    exact warsh_follow hi hd hb n (Nat.le_refl _) t i h1 h2 (.inr rfl) h3

theorem fin_round {n : Nat} {a : Nat → Nat} (h : Good n a) (hy : cyc (clo n a) n = true) : fin (rev n a) n (all n) = 0 := by
  rw [← fin_clo h]
  apply Classical.byContradiction
  intro hne
  obtain ⟨v, hv, hc⟩ := (cyc_iff _ _).1 hy
  have := (fin_down (rev_lt h.le (clo n a)) _ (all n) (Nat.lt_succ_self _) (all_small h.le) hne v hv (all_bit hv)).2
  rw [rev_at.2 ⟨hv, hv, hc⟩] at this
  cases this

/-- How many orders a relation has. -/
def orders (n : Nat) (a : Nat → Nat) : Nat := fin (rev n a) n (all n)
/-- What Count answers of a relation that Check lets by. -/
theorem count_good {n : Nat} {a : Nat → Nat} (h : Good n a) (w : World) :
    Calls Tryd.prog 7 #[relV n a] w fun e w' => e = .returned (.tuple #[.int .i64 (wrap64 ((orders n a : Nat) : Int)), .int .i64 (if cyc (clo n a) n = true then 4 else 0)]) ∧ Below w.heap.size w w' := by
  cases hy : cyc (clo n a) n with
  | true =>
    have h0 : wrap64 ((orders n a : Nat) : Int) = 0 := by
      unfold orders
      rw [fin_round h hy]
      simp [wrap64]
    rw [h0]
    exact count_err n a 4 w rfl (fails_round h hy)
  | false =>
    have h0 : wrap64 ((orders n a : Nat) : Int) = cntC n (clo n a) := by
      unfold orders cntC
      rw [← fin_clo h]
      exact (tab_fin _ n).symm
    rw [h0]
    exact count_no n a w h hy

/-- One pair more. -/
def put (a : Nat → Nat) (i j : Nat) : Nat → Nat := fun k => if k = i then a i ||| 2 ^ j else a k
theorem put_bit (a : Nat → Nat) (i j k t : Nat) : (put a i j k).testBit t = ((a k).testBit t || (decide (k = i) && decide (j = t))) := by
  unfold put
  by_cases e : k = i
  · subst e; rw [if_pos rfl, Nat.testBit_or, Nat.testBit_two_pow]; simp
  · rw [if_neg e]; simp [e]
theorem Good.put {n : Nat} {a : Nat → Nat} (h : Good n a) {i j : Nat} (hi : i < n) (hj : j < n) : Good n (put a i j) := by
  have hn := h.le
  refine good_of hn (fun k hk => ?_) (fun k hk t ht => ?_) (fun k hk hnk => ?_)
  · unfold Proofs.YtkfijolimoehmaaDoor.put
    split
    · exact Nat.or_lt_two_pow (n := 16) (h.lt i (by omega)) (Nat.pow_lt_pow_right (by omega) (by omega))
    · exact h.lt k hk
  · rw [put_bit] at ht
    simp only [Bool.or_eq_true, Bool.and_eq_true, decide_eq_true_eq] at ht
    rcases ht with ht | ⟨_, rfl⟩
    · exact h.inn hk ht
    · exact hj
  · unfold Proofs.YtkfijolimoehmaaDoor.put
    rw [if_neg (by omega)]
    exact h.out hk hnk
theorem rev_put {n : Nat} {a : Nat → Nat} {i j : Nat} (hi : i < n) (hj : j < n) : rev n (put a i j) = plus (rev n a) i j := by
  funext x
  apply Nat.eq_of_testBit_eq
  intro t
  rw [plus_bit, rev_bit, rev_bit, put_bit]
  by_cases e1 : t = i
  · by_cases e2 : x = j
    · subst e1 e2; simp [hi, hj]
    · simp [e2, show ¬ j = x from fun k => e2 k.symm]
  · simp [e1, show ¬ i = t from fun k => e1 k.symm]
theorem orders_split {n : Nat} {a : Nat → Nat} (h : Good n a) {i j : Nat} (hi : i < n) (hj : j < n) (hij : i ≠ j) : orders n a = orders n (put a i j) + orders n (put a j i) := by
  unfold orders
  rw [rev_put hi hj, rev_put hj hi]
  exact fin_split (rev_lt h.le a) hi hj (by have := h.le; omega) hij _ (all n) (Nat.lt_succ_self _) (all_small h.le) (all_bit hi) (all_bit hj)
end Go.Proofs.YtkfijolimoehmaaDoor
