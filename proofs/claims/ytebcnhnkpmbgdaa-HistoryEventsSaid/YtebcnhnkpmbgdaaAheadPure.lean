/-
  A relation given by a test of two items, row by row; who is ahead of whom among calls.
-/
import Derived.Test.YtebcnhnkpmbgdaaSpanPure
import Derived.Test.YtebcnhnkpmbgdaaLRd
namespace Go.Proofs.Ytebcnhnkpmbgdaa
open Go.RowKit
set_option maxRecDepth 20000

def relP (p : Nat → Nat → Bool) (m : Nat) : Nat → Nat := fun i => if i < m then pickS (p i) m else 0
theorem relP_bit (p : Nat → Nat → Bool) (m i j : Nat) : (relP p m i).testBit j = (decide (i < m) && decide (j < m) && p i j) := by
  unfold relP
  by_cases h : i < m
  · rw [if_pos h, pickS_bit]; simp [h]
  · rw [if_neg h]; simp [h]
theorem relP_lt (p : Nat → Nat → Bool) {m : Nat} (hm : m ≤ 12) (i : Nat) : relP p m i < 65536 := by
  unfold relP
  split
  · exact pickS_lt16 _ hm
  · omega
/-- The relation behind k whole rows and the first j of row k. -/
def upP (p : Nat → Nat → Bool) (m k j : Nat) : Nat → Nat := fun i => if i < k then pickS (p i) m else if i = k then pickS (p k) j else 0
theorem upP_end (p : Nat → Nat → Bool) (m k : Nat) : upP p m k m = upP p m (k + 1) 0 := by
  funext i
  unfold upP
  by_cases h1 : i < k
  · rw [if_pos h1, if_pos (by omega)]
  · rw [if_neg h1]
    by_cases h2 : i = k
    · subst h2; rw [if_pos rfl, if_pos (by omega)]
    · rw [if_neg h2, if_neg (by omega)]
      by_cases h3 : i = k + 1
      · rw [if_pos h3]; rfl
      · rw [if_neg h3]
theorem upP_step (p : Nat → Nat → Bool) (m k j : Nat) : upP p m k (j + 1) = if p k j = true then (fun i => if i = k then upP p m k j k ||| 2 ^ j else upP p m k j i) else upP p m k j := by
  have hs : pickS (p k) (j + 1) = if p k j = true then pickS (p k) j ||| 2 ^ j else pickS (p k) j := by
    apply Nat.eq_of_testBit_eq
    intro i
    rw [pickS_bit]
    by_cases h : p k j = true
    · rw [if_pos h, Nat.testBit_or, pickS_bit, Nat.testBit_two_pow]
      by_cases e : j = i
      · subst e; simp [h]
      · simp [e, show i < j + 1 ↔ i < j by omega]
    · rw [if_neg h, pickS_bit]
      by_cases e : i = j
      · subst e; simp [h]
      · simp [show i < j + 1 ↔ i < j by omega]
  by_cases h : p k j = true
  · rw [if_pos h] at hs ⊢
    funext i
    unfold upP
    by_cases h1 : i = k
    · subst h1; simp [hs]
    · simp [h1]
  · rw [if_neg h] at hs ⊢
    funext i
    unfold upP
    rw [hs]
theorem upP_lt (p : Nat → Nat → Bool) (m k j : Nat) (hm : m ≤ 12) (hj : j ≤ 12) (i : Nat) : upP p m k j i < 65536 := by
  unfold upP
  split
  · exact pickS_lt16 _ hm
  · split
    · exact pickS_lt16 _ hj
    · omega
theorem upP_all (p : Nat → Nat → Bool) (m : Nat) : upP p m m 0 = relP p m := by
  funext i
  unfold upP relP
  by_cases h : i < m
  · rw [if_pos h, if_pos h]
  · rw [if_neg h, if_neg h]
    split <;> rfl
theorem upP_none (p : Nat → Nat → Bool) (m : Nat) : upP p m 0 0 = fun _ => 0 := by
  funext i
  unfold upP
  rw [if_neg (by omega)]
  split <;> rfl

/-- Is call i answered ahead of call j? -/
def aheadB (l : List Cl) (i j : Nat) : Bool := decide ((l.getD i default).til ≠ -1 ∧ (l.getD i default).til < (l.getD j default).frm)
theorem aheadB_at {l : List Cl} {i j : Nat} {x y : Cl} (hx : l[i]? = some x) (hy : l[j]? = some y) : aheadB l i j = decide (x.til ≠ -1 ∧ x.til < y.frm) := by
  unfold aheadB
  rw [List.getD_eq_getElem?_getD, hx, List.getD_eq_getElem?_getD, hy]
  rfl
end Go.Proofs.Ytebcnhnkpmbgdaa
