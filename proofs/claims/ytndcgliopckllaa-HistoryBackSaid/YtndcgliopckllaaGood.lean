/-
  Plain: relations that Check lets by: their closure is one, closed, and has all that was there. The three ways of Check.
-/
import Derived.Test.YtndcgliopckllaaClo
import Derived.Test.YtndcgliopckllaaTrans
namespace Go.Proofs.Ytndcgliopckllaa
open Go.RowKit
set_option maxRecDepth 20000

theorem not_bit (x j : Nat) (hx : x < 65536) : (65535 - x).testBit j = (decide (j < 16) && !x.testBit j) := by
  have := Nat.testBit_two_pow_sub_succ (n := 16) hx j
  rw [show 2 ^ 16 - (x + 1) = 65535 - x by omega] at this
  exact this
theorem sub_zero {x y : Nat} (hy : y < 65536) (h : ∀ j, x.testBit j = true → y.testBit j = true) : x &&& (65535 - y) = 0 := by
  apply Nat.eq_of_testBit_eq
  intro j
  rw [Nat.testBit_and, not_bit _ _ hy, Nat.zero_testBit]
  cases hj : x.testBit j
  · rfl
  · rw [h j hj]; simp
theorem bit_lt16 {x j : Nat} (hx : x < 65536) (hj : x.testBit j = true) : j < 16 := by
  rcases Nat.lt_or_ge j 16 with h | h
  · exact h
  · have : x < 2 ^ j := Nat.lt_of_lt_of_le (show x < 2 ^ 16 from hx) (Nat.pow_le_pow_right (by omega) h)
    rw [Nat.testBit_lt_two_pow this] at hj; cases hj
theorem sub_of_zero {x y : Nat} (hx : x < 65536) (hy : y < 65536) (h : x &&& (65535 - y) = 0) (j : Nat) (hj : x.testBit j = true) : y.testBit j = true := by
  have h1 := congrArg (fun t => t.testBit j) h
  simp only [Nat.testBit_and, not_bit _ _ hy, Nat.zero_testBit, hj, bit_lt16 hx hj] at h1
  simpa using h1
theorem ones_bit (n j : Nat) : (2 ^ n - 1).testBit j = decide (j < n) := Nat.testBit_two_pow_sub_one n j
theorem ones_lt {n : Nat} (h : n ≤ 12) : 2 ^ n - 1 < 65536 := by
  have h2 : 2 ^ n ≤ 4096 := Nat.le_trans (Nat.pow_le_pow_right (by omega) h) (by decide)
  omega

theorem Good.inn {n : Nat} {a : Nat → Nat} (h : Good n a) {i : Nat} (hi : i < 12) {j : Nat} (hj : (a i).testBit j = true) : j < n := by
  have hb := h.rows i hi
  unfold rowBad at hb
  rw [Bool.or_eq_false_iff] at hb
  have h0 : a i &&& (65535 - (2 ^ n - 1)) = 0 := by simpa using hb.1
  have := sub_of_zero (h.lt i hi) (ones_lt h.le) h0 j hj
  rw [ones_bit] at this
  simpa using this
theorem Good.out {n : Nat} {a : Nat → Nat} (h : Good n a) {i : Nat} (hi : i < 12) (hn : n ≤ i) : a i = 0 := by
  have hb := h.rows i hi
  unfold rowBad at hb
  rw [Bool.or_eq_false_iff] at hb
  simpa [hn] using hb.2
theorem good_of {n : Nat} {a : Nat → Nat} (hn : n ≤ 12) (hl : ∀ i, i < 12 → a i < 65536) (hi : ∀ i, i < 12 → ∀ j, (a i).testBit j = true → j < n) (ho : ∀ i, i < 12 → n ≤ i → a i = 0) : Good n a := by
  refine ⟨hn, hl, fun i h => ?_⟩
  unfold rowBad
  rw [Bool.or_eq_false_iff]
  refine ⟨?_, ?_⟩
  · have := sub_zero (x := a i) (ones_lt hn) (fun j hj => by rw [ones_bit]; exact decide_eq_true (hi i h j hj))
    rw [this]; rfl
  · by_cases hni : n ≤ i
    · rw [ho i h hni]; simp
    · simp [hni]

theorem Good.clo_in {n : Nat} {a : Nat → Nat} (h : Good n a) {i : Nat} (hi : i < n) {j : Nat} (hj : (clo n a i).testBit j = true) : j < n :=
  warsh_in (fun _ hi _ hj => h.inn (Nat.lt_of_lt_of_le hi h.le) hj) n (Nat.le_refl _) i hi j hj
theorem Good.clo_out {n : Nat} {a : Nat → Nat} (h : Good n a) {i : Nat} (hi : i < 12) (hn : n ≤ i) : clo n a i = 0 := (warsh_out i hn n).trans (h.out hi hn)
theorem Good.clo {n : Nat} {a : Nat → Nat} (h : Good n a) : Good n (clo n a) := by
  refine good_of h.le (fun i hi => warsh_lt (B := 16) h.lt n h.le i hi) (fun i hi j hj => ?_) (fun i hi hn => h.clo_out hi hn)
  rcases Nat.lt_or_ge i n with hin | hin
  · exact h.clo_in hin hj
  · rw [h.clo_out hi hin] at hj; simp at hj
theorem clo_trans (n : Nat) (a : Nat → Nat) : TransV n (clo n a) := fun i hi v hv hiv j hj => warsh_trans n a n (Nat.le_refl _) i hi v hv hiv j hj
theorem clo_has (n : Nat) (a : Nat → Nat) (i j : Nat) (h : (a i).testBit j = true) : (clo n a i).testBit j = true := warsh_has n a i j h n
theorem clo_clo (n : Nat) (a : Nat → Nat) : clo n (clo n a) = clo n a := warsh_still (clo_trans n a) n (Nat.le_refl _)
theorem clo_sub (n : Nat) (a : Nat → Nat) (i : Nat) (h : Good n a) (hi : i < 12) : a i &&& (65535 - clo n a i) = 0 := sub_zero (h.clo.lt i hi) (clo_has n a i)

/-- Whatever the relation: Check finds a fault, or lets it by. -/
theorem check_ways (n : Int) (a : Nat → Nat) (ha : ∀ i, a i < 65536) : (∃ E, (E != 0) = true ∧ (E = 1 ∨ E = 3) ∧ Checks n a E) ∨ ∃ m : Nat, n = m ∧ Good m a := by
  by_cases h0 : n < 0
  · exact .inl ⟨1, rfl, .inl rfl, fun w => check_arg n a w (.inl h0)⟩
  by_cases h1 : 12 < n
  · exact .inl ⟨1, rfl, .inl rfl, fun w => check_arg n a w (.inr h1)⟩
  obtain ⟨m, rfl⟩ : ∃ m : Nat, n = m := ⟨n.toNat, by omega⟩
  have hm : m ≤ 12 := by omega
  by_cases hb : ∃ i, i < 12 ∧ rowBad m i (a i) = true
  · obtain ⟨i, hi, hbi⟩ := hb
    exact .inl ⟨3, rfl, .inr rfl, fun w => check_form m a w hm (fun i _ => ha i) i hi hbi⟩
  · exact .inr ⟨m, rfl, hm, fun i _ => ha i, fun i hi => by
      cases h : rowBad m i (a i)
      · rfl
      · exact absurd ⟨i, hi, h⟩ hb⟩
end Go.Proofs.Ytndcgliopckllaa
