/-
  Plain: what Orders counts, and the first list that it finds, by direct steps alone.
-/
import Derived.Test.YtcpmhflkooipdaaDoorOrdPure
import Derived.Test.YtcpmhflkooipdaaDoorLofPure
namespace Go.Proofs.YtcpmhflkooipdaaDoor
open Go.RowKit
set_option maxRecDepth 20000

/-- D is closed: who leads to one of it lies in it. -/
structure Down (n : Nat) (a : Nat → Nat) (D : Nat) : Prop where
  lt : D < 65536
  inn : ∀ x, D.testBit x = true → x < n
  cl : ∀ x, D.testBit x = true → Sub (rev n (clo n a) x) D
theorem down_zero (n : Nat) (a : Nat → Nat) : Down n a 0 := ⟨by decide, fun x h => by simp at h, fun x h => by simp at h⟩

section
variable {n : Nat} {a : Nat → Nat} {D : Nat}
/-- By direct steps or by the closure. -/
theorem may_first (hG : Good n a) (hd : Down n a D) {i : Nat} (hi : i < n) : mayUp a D i n = firstB (rev n (clo n a)) D i := by
  have hn := hG.le
  rw [Bool.eq_iff_iff, mayUp_iff, firstB]
  simp only [Bool.and_eq_true, decide_eq_true_eq, Bool.not_eq_true']
  constructor
  · rintro ⟨h1, h2⟩
    refine ⟨h1, (within_iff (rev_lt hn (clo n a) i) hd.lt).2 fun t ht => ?_⟩
    obtain ⟨ht1, _, ht3⟩ := rev_at.1 ht
    refine clo_min (R := fun u v => (D.testBit v = true ∨ v = i) → D.testBit u = true) (fun u hu v huv hv => ?_) (fun u v w h1 h2 hw => h1 (.inl (h2 hw))) ht1 ht3 (.inr rfl)
    rcases hv with hv | rfl
    · exact hd.cl v hv u (rev_at.2 ⟨hu, hG.inn (Nat.lt_of_lt_of_le hu hn) huv, clo_has n a u v huv⟩)
    · exact h2 u hu huv
  · rintro ⟨h1, h2⟩
    exact ⟨h1, fun j hj hb => (within_iff (rev_lt hn (clo n a) i) hd.lt).1 h2 j (rev_at.2 ⟨hj, hi, clo_has n a j i hb⟩)⟩
theorem Down.more (hG : Good n a) (hd : Down n a D) {i : Nat} (hi : i < n) (h : firstB (rev n (clo n a)) D i = true) : Down n a (D ||| 2 ^ i) := by
  have hn := hG.le
  rw [firstB] at h
  simp only [Bool.and_eq_true, decide_eq_true_eq, Bool.not_eq_true'] at h
  have hs := (within_iff (rev_lt hn (clo n a) i) hd.lt).1 h.2
  have hor : ∀ x, (D ||| 2 ^ i).testBit x = true ↔ D.testBit x = true ∨ i = x := fun x => by
    rw [Nat.testBit_or, Nat.testBit_two_pow, Bool.or_eq_true, decide_eq_true_eq]
  refine ⟨Nat.or_lt_two_pow (n := 16) hd.lt (Nat.pow_lt_pow_right (by omega) (by omega)), fun x hx => ?_, fun x hx t ht => ?_⟩
  · rcases (hor x).1 hx with h1 | h1
    · exact hd.inn x h1
    · omega
  · rcases (hor x).1 hx with h1 | rfl
    · exact (hor t).2 (.inl (hd.cl x h1 t ht))
    · exact (hor t).2 (.inl (hs t ht))
theorem card_more {i : Nat} (hi : i < n) (h : D.testBit i = false) : card n (D ||| 2 ^ i) = card n D + 1 := by
  rw [card_del (i := i) hi (by simp), del_or h]

/-- What is counted forwards is counted backwards. -/
theorem ordC_fin {b : Nat → Nat} : ∀ f D, (∀ x, D.testBit x = true → x < n) → card n D + f = n → ordC b n f D = finF b n D (all n)
  | 0, D, hin, hc => by
    have e : all n = D := by
      apply Nat.eq_of_testBit_eq
      intro x
      show (2 ^ n - 1).testBit x = _
      rw [ones_bit]
      cases hx : D.testBit x with
      | true => exact decide_eq_true (hin x hx)
      | false =>
        refine decide_eq_false fun h => ?_
        rw [card_full (by omega) x h] at hx
        cases hx
    rw [e, finF_self]
    rfl
  | f + 1, D, hin, hc => by
    have hne : all n ≠ D := fun e => by
      have h1 : card n D = n := by
        rw [← e]
        have : card n (all n) = sumUp (fun _ => 1) n := sumUp_congr fun i hi => by
          show (if (2 ^ n - 1).testBit i = true then 1 else 0) = 1
          rw [ones_bit]; simp [hi]
        rw [this]
        have h2 : ∀ m, sumUp (fun _ => 1) m = m := fun m => by
          induction m with
          | zero => rfl
          | succ m ih => rw [sumUp, ih]
        exact h2 n
      omega
    rw [finF_first (all n + 1) (all n) (Nat.lt_succ_self _) hne, ordC]
    refine sumUp_congr fun i hi => ?_
    by_cases hf : firstB b D i = true
    · rw [if_pos hf, if_pos hf]
      have hDi : D.testBit i = false := by
        rw [firstB, Bool.and_eq_true] at hf
        simpa using hf.1
      refine ordC_fin f _ (fun x hx => ?_) (by rw [card_more hi hDi]; omega)
      rw [Nat.testBit_or, Nat.testBit_two_pow, Bool.or_eq_true, decide_eq_true_eq] at hx
      rcases hx with hx | rfl
      · exact hin x hx
      · exact hi
    · rw [if_neg hf, if_neg hf]
theorem ordC_all (b : Nat → Nat) (n : Nat) : ordC b n n 0 = fin b n (all n) := by
  rw [fin_finF b n (all n + 1) (all n) (Nat.lt_succ_self _)]
  refine ordC_fin n 0 (fun x h => by simp at h) ?_
  have : card n 0 = 0 := sumUp_zero fun i _ => by simp
  omega
end

/-- The first list that begins with xs, D being its items: f are left. -/
def compL (b : Nat → Nat) (n : Nat) : Nat → Nat → List Int → List Int
  | 0, _, xs => xs
  | f + 1, D, xs => compL b n f (D ||| (2 ^ nextOf (rdyUp b D n) % 65536)) (xs ++ [(nextOf (rdyUp b D n) : Int)])
theorem compL_least (b : Nat → Nat) (n : Nat) : ∀ f k, compL b n f (lsD b n k) (lsL b n k) = lsL b n (k + f)
  | 0, k => rfl
  | f + 1, k => by
    have := compL_least b n f (k + 1)
    rw [show k + 1 + f = k + (f + 1) by omega] at this
    exact this
theorem compL_all (b : Nat → Nat) (n : Nat) : compL b n n 0 [] = lsL b n n := by
  have := compL_least b n n 0
  rwa [Nat.zero_add] at this
theorem compL_length (b : Nat → Nat) (n : Nat) : ∀ f D xs, (compL b n f D xs).length = xs.length + f
  | 0, _, _ => rfl
  | f + 1, D, xs => by
    rw [compL, compL_length b n f, List.length_append, List.length_singleton]; omega

/-- The first that may come. -/
theorem next_first {b : Nat → Nat} {n D i : Nat} (hn : n ≤ 12) (hi : i < n) (hf : firstB b D i = true) (hl : ∀ x, x < i → firstB b D x = false) : nextOf (rdyUp b D n) = i := by
  have hm : (rdyUp b D n).testBit i = true := by
    rw [firstB] at hf
    rw [rdy_bit, hf]; simp [hi]
  have hl' : ∀ x, x < i → (rdyUp b D n).testBit x = false := fun x hx => by
    have := hl x hx
    rw [firstB] at this
    rw [rdy_bit, this]; simp
  have hlt : rdyUp b D n < 2 ^ 16 := rdyUp_lt _ _ 16 n (by omega)
  generalize rdyUp b D n = r at hm hl' hlt
  have hne : r ≠ 0 := fun e => by rw [e] at hm; simp at hm
  have ht := tzN_bit 16 r (Nat.pos_of_ne_zero hne) hlt
  unfold nextOf
  rw [if_neg hne]
  show tzN 16 r = i
  rcases Nat.lt_trichotomy (tzN 16 r) i with h1 | h1 | h1
  · have := hl' _ h1; rw [ht.1] at this; cases this
  · exact h1
  · have := ht.2 i h1; rw [hm] at this; cases this
theorem some_first {n : Nat} {c : Nat → Nat} (h : Strict n c) (hn : n ≤ 12) {D : Nat} (hD : D < 65536) (hc : card n D < n) : ∃ i, i < n ∧ firstB (rev n c) D i = true := by
  obtain ⟨h1, h2, h3⟩ := next_is h hn hD hc
  refine ⟨_, h1, ?_⟩
  rw [firstB, h2]
  simp [(within_iff (rev_lt hn c _) hD).2 h3]
end Go.Proofs.YtcpmhflkooipdaaDoor
