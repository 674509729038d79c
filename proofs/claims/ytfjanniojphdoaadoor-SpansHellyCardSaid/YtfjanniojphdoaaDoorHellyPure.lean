/-
  HELLY, plainly: spans of which any two meet meet at one time; the widest set apart is as large as the most that meet at one time. No Go, no program.
-/
import Derived.Test.YtfjanniojphdoaaDoorSpLives
import Derived.Test.YtfjanniojphdoaaDoorWideMost
namespace Go.Proofs.YtfjanniojphdoaaDoor
open Go.RowKit
set_option maxRecDepth 20000

theorem clo_spRel {m : Nat} {F T : Nat → Int} (h : ∀ i, i < m → F i ≤ T i) : clo m (spRel m F T) = spRel m F T ∧ cyc (clo m (spRel m F T)) m = false := by
  have h1 : clo m (spRel m F T) = spRel m F T := by
    refine warsh_still (fun i hi v hv hiv j hj => ?_) m (Nat.le_refl _)
    rw [spRel_bit] at hiv hj ⊢
    simp only [Bool.and_eq_true, decide_eq_true_iff] at hiv hj ⊢
    have := h v hv
    exact ⟨⟨hi, hj.1.2⟩, by omega⟩
  refine ⟨h1, ?_⟩
  rw [h1]
  cases hy : cyc (spRel m F T) m
  · rfl
  · obtain ⟨v, hv, hvv⟩ := (cyc_iff _ m).1 hy
    rw [spRel_bit] at hvv
    simp only [Bool.and_eq_true, decide_eq_true_iff] at hvv
    have := h v hv
    omega

theorem cntAt_sum (F T : Nat → Int) (t : Int) : ∀ m, cntAt F T t m = sumUp (fun k => if F k ≤ t ∧ t ≤ T k then 1 else 0) m
  | 0 => rfl
  | m + 1 => by rw [cntAt, sumUp, cntAt_sum F T t m]
theorem sumUp_mono {f g : Nat → Nat} : ∀ {m : Nat}, (∀ i, i < m → f i ≤ g i) → sumUp f m ≤ sumUp g m
  | 0, _ => Nat.le_refl _
  | m + 1, h => by
    have := sumUp_mono (f := f) (g := g) (m := m) (fun i hi => h i (by omega))
    have := h m (by omega)
    rw [sumUp, sumUp]
    omega
theorem sumUp_one1 : ∀ m, sumUp (fun _ => 1) m = m
  | 0 => rfl
  | m + 1 => by rw [sumUp, sumUp_one1 m]

/-- The best number is the most. -/
theorem best_most (m : Nat) (F T : Nat → Int) : ∀ k, (∀ i, i < k → cntAt F T (F i) m ≤ (bestUp m F T k).2) ∧ ((bestUp m F T k).2 = 0 ∨ ∃ i, i < k ∧ (bestUp m F T k).2 = cntAt F T (F i) m)
  | 0 => ⟨fun i hi => by omega, Or.inl rfl⟩
  | k + 1 => by
    obtain ⟨h1, h2⟩ := best_most m F T k
    rw [bestUp]
    split
    · rename_i hc
      refine ⟨fun i hi => ?_, Or.inr ⟨k, by omega, rfl⟩⟩
      show cntAt F T (F i) m ≤ cntAt F T (F k) m
      rcases Nat.lt_or_ge i k with h | h
      · have := h1 i h
        omega
      · obtain rfl : i = k := by omega
        exact Nat.le_refl _
    · rename_i hc
      refine ⟨fun i hi => ?_, ?_⟩
      · rcases Nat.lt_or_ge i k with h | h
        · exact h1 i h
        · obtain rfl : i = k := by omega
          omega
      · rcases h2 with h2 | ⟨i, hi, h2⟩
        · exact Or.inl h2
        · exact Or.inr ⟨i, by omega, h2⟩

/-- Among those of which p holds there is one that begins last. -/
theorem last_one (F : Nat → Int) (p : Nat → Bool) : ∀ m, (∃ i, i < m ∧ p i = true) → ∃ i, i < m ∧ p i = true ∧ ∀ j, j < m → p j = true → F j ≤ F i
  | 0, ⟨i, hi, _⟩ => absurd hi (Nat.not_lt_zero _)
  | m + 1, ⟨i, hi, hp⟩ => by
    by_cases h : ∃ i, i < m ∧ p i = true
    · obtain ⟨j, hj, hpj, hmax⟩ := last_one F p m h
      cases hm : p m
      · refine ⟨j, by omega, hpj, fun k hk hpk => ?_⟩
        rcases Nat.lt_or_ge k m with h1 | h1
        · exact hmax k h1 hpk
        · obtain rfl : k = m := by omega
          rw [hm] at hpk
          cases hpk
      · by_cases hle : F j ≤ F m
        · refine ⟨m, by omega, hm, fun k hk hpk => ?_⟩
          rcases Nat.lt_or_ge k m with h1 | h1
          · have := hmax k h1 hpk
            omega
          · obtain rfl : k = m := by omega
            exact Int.le_refl _
        · refine ⟨j, by omega, hpj, fun k hk hpk => ?_⟩
          rcases Nat.lt_or_ge k m with h1 | h1
          · exact hmax k h1 hpk
          · obtain rfl : k = m := by omega
            omega
    · have him : i = m := by
        rcases Nat.lt_or_ge i m with h1 | h1
        · exact absurd ⟨i, h1, hp⟩ h
        · omega
      subst him
      refine ⟨i, by omega, hp, fun k hk hpk => ?_⟩
      rcases Nat.lt_or_ge k i with h1 | h1
      · exact absurd ⟨k, h1, hpk⟩ h
      · obtain rfl : k = i := by omega
        exact Int.le_refl _

theorem helly_all {m : Nat} {F T : Nat → Int} (h : ∀ i, i < m → ∀ j, j < m → F i ≤ T j ∧ F j ≤ T i) : (bestUp m F T m).2 = m := by
  have hle := bestUp_le m F T m
  by_cases h0 : m = 0
  · omega
  obtain ⟨i, hi, _, hmax⟩ := last_one F (fun _ => true) m ⟨0, by omega, rfl⟩
  have h1 := (best_most m F T m).1 i hi
  have h2 : cntAt F T (F i) m = m := by
    rw [cntAt_sum]
    have : sumUp (fun _ => 1) m ≤ sumUp (fun k => if F k ≤ F i ∧ F i ≤ T k then 1 else 0) m := sumUp_mono fun k hk => by
      rw [if_pos ⟨hmax k hk rfl, (h i hi k hk).1⟩]
      exact Nat.le_refl _
    rw [sumUp_one1] at this
    have h3 := cntAt_le F T (F i) m
    rw [cntAt_sum] at h3
    omega
  omega

theorem card_pick {m : Nat} (p : Nat → Bool) : card m (pickS p m) = sumUp (fun k => if p k = true then 1 else 0) m := by
  unfold card
  have key : ∀ k, k ≤ m → sumUp (fun i => if (pickS p m).testBit i = true then 1 else 0) k = sumUp (fun i => if p i = true then 1 else 0) k := by
    intro k
    induction k with
    | zero => intro _; rfl
    | succ k ih =>
      intro hk
      rw [sumUp, sumUp, ih (by omega)]
      congr 1
      rw [pickS_bit, decide_eq_true (show k < m by omega), Bool.true_and]
  exact key m (Nat.le_refl _)

theorem helly_wide {m : Nat} (F T : Nat → Int) (hm : m ≤ 12) : pop (wide m (spRel m F T)) = (bestUp m F T m).2 := by
  have hw := wide_most (c := spRel m F T) (n := m) (2 ^ m)
  have hsm := wide_small m (spRel m F T)
  obtain ⟨hb1, hb2⟩ := best_most m F T m
  apply Nat.le_antisymm
  · -- the widest set meets at the last beginning
    by_cases hne : ∃ i, i < m ∧ (wide m (spRel m F T)).testBit i = true
    · obtain ⟨u, hu, hub, hmax⟩ := last_one F (fun i => (wide m (spRel m F T)).testBit i) m hne
      refine Nat.le_trans ?_ (hb1 u hu)
      rw [pop_is (by omega) hsm, cntAt_sum]
      unfold card
      refine sumUp_mono fun t ht => ?_
      by_cases htb : (wide m (spRel m F T)).testBit t = true
      · rw [if_pos htb, if_pos]
        · exact Nat.le_refl _
        refine ⟨hmax t ht htb, ?_⟩
        rcases Int.lt_or_le (T t) (F u) with h1 | h1
        · exfalso
          have h2 := (anti_iff _ _ m).1 hw.1 t ht htb
          have h3 := congrArg (fun x => x.testBit u) h2
          simp only [Nat.testBit_and, Nat.zero_testBit] at h3
          rw [show wideUp (spRel m F T) m (2 ^ m) = wide m (spRel m F T) from rfl, hub, spRel_bit] at h3
          simp [ht, hu, h1] at h3
        · exact h1
      · rw [if_neg htb]
        exact Nat.zero_le _
    · have hz : wide m (spRel m F T) = 0 := by
        apply Nat.eq_of_testBit_eq
        intro i
        rw [Nat.zero_testBit]
        rcases Nat.lt_or_ge i m with h1 | h1
        · cases e : (wide m (spRel m F T)).testBit i
          · rfl
          · exact absurd ⟨i, h1, e⟩ hne
        · exact Nat.testBit_lt_two_pow (Nat.lt_of_lt_of_le hsm (Nat.pow_le_pow_right (by omega) h1))
      rw [hz]
      exact Nat.zero_le _
  · rcases hb2 with h0 | ⟨i, hi, h0⟩
    · rw [h0]
      exact Nat.zero_le _
    · rw [h0]
      have hK := hw.2 (pickS (fun t => decide (F t ≤ F i ∧ F i ≤ T t)) m) (pickS_lt _ m) ((anti_iff _ _ m).2 (fun t ht htb => ?_))
      · refine Nat.le_trans (Nat.le_of_eq ?_) hK
        rw [pop_is (by omega) (pickS_lt _ m), card_pick, cntAt_sum]
        have key : ∀ k, sumUp (fun k => if F k ≤ F i ∧ F i ≤ T k then 1 else 0) k = sumUp (fun k => if decide (F k ≤ F i ∧ F i ≤ T k) = true then 1 else 0) k := by
          intro k
          induction k with
          | zero => rfl
          | succ k ih => rw [sumUp, sumUp, ih]; simp only [decide_eq_true_iff]
        exact key m
      · apply Nat.eq_of_testBit_eq
        intro u
        rw [Nat.testBit_and, Nat.zero_testBit, pickS_bit, spRel_bit]
        rw [pickS_bit] at htb
        simp only [Bool.and_eq_true, decide_eq_true_iff] at htb
        cases hc : decide (T t < F u)
        · simp
        · rw [decide_eq_true_iff] at hc
          have : ¬ (F u ≤ F i ∧ F i ≤ T u) := by omega
          simp [this]
end Go.Proofs.YtfjanniojphdoaaDoor
