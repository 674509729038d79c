/-
  DILWORTH, plainly: where no K + 1 are apart all fall into K chains (Galvin's way). No Go, no program.
-/
import Derived.Test.YtfjanniojphdoaaDoorPure
namespace Go.Proofs.YtfjanniojphdoaaDoor
open Go.RowKit
set_option maxRecDepth 20000

section
variable {n : Nat} {R : Nat → Nat → Prop}
/-- Some K of S, no two of which are ordered. -/
def AC (R : Nat → Nat → Prop) (S : Nat → Prop) (K : Nat) : Prop := ∃ g : Nat → Nat, (∀ i, i < K → S (g i)) ∧ ∀ i j, i < K → j < K → i ≠ j → g i ≠ g j ∧ ¬ R (g i) (g j)
/-- S falls into K chains. -/
def Col (R : Nat → Nat → Prop) (S : Nat → Prop) (K : Nat) : Prop := ∃ f : Nat → Nat, (∀ x, S x → f x < K) ∧ ∀ x y, S x → S y → x ≠ y → f x = f y → R x y ∨ R y x
theorem AC.sub {S T : Nat → Prop} {K : Nat} (h : AC R T K) (hs : ∀ x, T x → S x) : AC R S K := by
  obtain ⟨g, h1, h2⟩ := h
  exact ⟨g, fun i hi => hs _ (h1 i hi), h2⟩

noncomputable def meas (n : Nat) (S : Nat → Prop) : Nat := sumUp (fun i => @ite _ (S i) (Classical.propDecidable _) 1 0) n
theorem sumUp_lt1 {f g : Nat → Nat} {a : Nat} (hfg : ∀ i, f i ≤ g i) (ha : f a < g a) : ∀ {m : Nat}, a < m → sumUp f m < sumUp g m
  | 0, h => by omega
  | m + 1, h => by
    rw [sumUp, sumUp]
    have h1 := hfg m
    rcases Nat.lt_or_ge a m with h2 | h2
    · have := sumUp_lt1 hfg ha (m := m) h2
      omega
    · obtain rfl : a = m := by omega
      have key : ∀ k, sumUp f k ≤ sumUp g k := fun k => by
        induction k with
        | zero => exact Nat.le_refl _
        | succ k ih =>
          have := hfg k
          rw [sumUp, sumUp]
          omega
      have := key a
      omega
theorem meas_lt {S T : Nat → Prop} {a : Nat} (hs : ∀ x, T x → S x) (ha : a < n) (hS : S a) (hT : ¬ T a) : meas n T < meas n S := by
  unfold meas
  refine sumUp_lt1 (a := a) (fun i => ?_) ?_ ha
  · by_cases h1 : T i
    · rw [if_pos h1, if_pos (hs i h1)]
      exact Nat.le_refl _
    · rw [if_neg h1]
      exact Nat.zero_le _
  · rw [if_neg hT, if_pos hS]
    exact Nat.zero_lt_one

/-- Where some is there is one that is last. -/
theorem last_of (hT : ∀ x y z, R x y → R y z → R x z) (hI : ∀ x, ¬ R x x) : ∀ N (S : Nat → Prop), meas n S < N → (∀ x, S x → x < n) → (∃ a, S a) → ∃ m, S m ∧ ∀ b, S b → ¬ R m b
  | 0, _, h, _, _ => by omega
  | N + 1, S, h, hn, ⟨a, ha⟩ => by
    by_cases hU : ∃ b, S b ∧ R a b
    · obtain ⟨m, hm, hmax⟩ := last_of hT hI N (fun x => S x ∧ R a x) (by
        have := meas_lt (n := n) (S := S) (T := fun x => S x ∧ R a x) (a := a) (fun x hx => hx.1) (hn a ha) ha (fun hx => hI a hx.2)
        omega) (fun x hx => hn x hx.1) hU
      exact ⟨m, hm.1, fun b hb hmb => hmax b ⟨hb, hT a m b hm.2 hmb⟩ hmb⟩
    · exact ⟨a, ha, fun b hb hab => hU ⟨b, hb, hab⟩⟩

/-- K unlike numbers below K are all of them. -/
theorem all_hit : ∀ K (g : Nat → Nat), (∀ i, i < K → g i < K) → (∀ i j, i < K → j < K → i ≠ j → g i ≠ g j) → ∀ y, y < K → ∃ i, i < K ∧ g i = y
  | 0, _, _, _, y, hy => by omega
  | K + 1, g, hlt, hne, y, hy => by
    by_cases hzy : g K = y
    · exact ⟨K, by omega, hzy⟩
    by_cases hz : g K = K
    · have h1 : ∀ i, i < K → g i < K := fun i hi => by
        have := hlt i (by omega)
        have := hne i K (by omega) (by omega) (by omega)
        omega
      obtain ⟨i, hi, e⟩ := all_hit K g h1 (fun i j hi hj => hne i j (by omega) (by omega)) y (by omega)
      exact ⟨i, by omega, e⟩
    · have hzK : g K < K := by have := hlt K (by omega); omega
      have h1 : ∀ i, i < K → (if g i = K then g K else g i) < K := fun i hi => by
        have := hlt i (by omega)
        split <;> omega
      have h2 : ∀ i j, i < K → j < K → i ≠ j → (if g i = K then g K else g i) ≠ (if g j = K then g K else g j) := fun i j hi hj hij => by
        have a1 := hne i j (by omega) (by omega) hij
        have a2 := hne i K (by omega) (by omega) (by omega)
        have a3 := hne j K (by omega) (by omega) (by omega)
        split <;> split <;> omega
      by_cases hyK : y = K
      · obtain ⟨i, hi, e⟩ := all_hit K (fun i => if g i = K then g K else g i) h1 h2 (g K) hzK
        have e' : (if g i = K then g K else g i) = g K := e
        have a2 := hne i K (by omega) (by omega) (by omega)
        split at e'
        · exact ⟨i, by omega, by omega⟩
        · omega
      · obtain ⟨i, hi, e⟩ := all_hit K (fun i => if g i = K then g K else g i) h1 h2 y (by omega)
        have e' : (if g i = K then g K else g i) = y := e
        split at e'
        · omega
        · exact ⟨i, by omega, e'⟩
theorem choose_below {P : Nat → Nat → Prop} {K : Nat} (h : ∀ i, i < K → ∃ x, P i x) : ∃ f : Nat → Nat, ∀ i, i < K → P i (f i) := by
  refine ⟨fun i => if hi : i < K then Classical.choose (h i hi) else 0, fun i hi => ?_⟩
  show P i (if hi : i < K then Classical.choose (h i hi) else 0)
  rw [dif_pos hi]
  exact Classical.choose_spec (h i hi)

theorem dilworth (hT : ∀ x y z, R x y → R y z → R x z) (hI : ∀ x, ¬ R x x) : ∀ N K (S : Nat → Prop), meas n S < N → (∀ x, S x → x < n) → ¬ AC R S (K + 1) → Col R S K
  | 0, _, _, h, _, _ => by omega
  | N + 1, K, S, h, hn, hac => by
    rcases Classical.em (∃ a, S a) with hS | hS
    · obtain ⟨a, ha, hmax⟩ := last_of hT hI (meas n S + 1) S (by omega) hn hS
      have hsub : ∀ x, (S x ∧ x ≠ a) → S x := fun x hx => hx.1
      have hm1 : meas n (fun x => S x ∧ x ≠ a) < meas n S := meas_lt hsub (hn a ha) ha (fun hx => hx.2 rfl)
      cases K with
      | zero => exact absurd ⟨fun _ => a, fun _ _ => ha, fun i j hi hj hij => by omega⟩ hac
      | succ k =>
      by_cases h1 : AC R (fun x => S x ∧ x ≠ a) (k + 1)
      · have hac' : ¬ AC R (fun x => S x ∧ x ≠ a) (k + 1 + 1) := fun h => hac (h.sub hsub)
        obtain ⟨f, hf1, hf2⟩ := dilworth hT hI N (k + 1) (fun x => S x ∧ x ≠ a) (by omega) (fun x hx => hn x hx.1) hac'
        -- an apart set of that size has one of each colour
        have hit : ∀ g : Nat → Nat, (∀ i, i < k + 1 → S (g i) ∧ g i ≠ a) → (∀ i j, i < k + 1 → j < k + 1 → i ≠ j → g i ≠ g j ∧ ¬ R (g i) (g j)) → ∀ y, y < k + 1 → ∃ l, l < k + 1 ∧ f (g l) = y := fun g g1 g2 =>
          all_hit (k + 1) (fun i => f (g i)) (fun i hi => hf1 _ (g1 i hi)) (fun i j hi hj hij e => by
            rcases hf2 (g i) (g j) (g1 i hi) (g1 j hj) (g2 i j hi hj hij).1 e with h | h
            · exact (g2 i j hi hj hij).2 h
            · exact (g2 j i hj hi (fun e => hij e.symm)).2 h)
        let C : Nat → Nat → Prop := fun i z => (S z ∧ z ≠ a) ∧ f z = i ∧ ∃ g : Nat → Nat, (∀ i, i < k + 1 → S (g i) ∧ g i ≠ a) ∧ (∀ i j, i < k + 1 → j < k + 1 → i ≠ j → g i ≠ g j ∧ ¬ R (g i) (g j)) ∧ ∃ l, l < k + 1 ∧ g l = z
        have hC : ∀ i, i < k + 1 → ∃ x, C i x ∧ ∀ b, C i b → ¬ R x b := fun i hi => by
          obtain ⟨g, g1, g2⟩ := h1
          obtain ⟨l, hl, e⟩ := hit g g1 g2 i hi
          exact last_of hT hI (meas n (C i) + 1) (C i) (by omega) (fun x hx => hn x hx.1.1) ⟨g l, g1 l hl, e, g, g1, g2, l, hl, rfl⟩
        obtain ⟨x, hx⟩ := choose_below hC
        -- whoever is of the class stands below the one that was picked
        have below : ∀ i, i < k + 1 → ∀ z, C i z → z = x i ∨ R z (x i) := fun i hi z hz => by
          by_cases e : z = x i
          · exact Or.inl e
          · rcases hf2 z (x i) hz.1 (hx i hi).1.1 e (by rw [hz.2.1, (hx i hi).1.2.1]) with h | h
            · exact Or.inr h
            · exact absurd h ((hx i hi).2 z hz)
        have apart : ∀ i j, i < k + 1 → j < k + 1 → i ≠ j → x i ≠ x j ∧ ¬ R (x j) (x i) := fun i j hi hj hij => by
          have hne : x i ≠ x j := fun e => by
            have e1 := (hx i hi).1.2.1
            have e2 := (hx j hj).1.2.1
            rw [e] at e1
            omega
          refine ⟨hne, fun hR => ?_⟩
          obtain ⟨g, g1, g2, l, hl, el⟩ := (hx i hi).1.2.2
          obtain ⟨l', hl', e'⟩ := hit g g1 g2 j hj
          have hy : C j (g l') := ⟨g1 l' hl', e', g, g1, g2, l', hl', rfl⟩
          have hlt : R (g l') (x i) := by
            rcases below j hj _ hy with h | h
            · rw [h]; exact hR
            · exact hT _ _ _ h hR
          have hll : l' ≠ l := fun e => by
            rw [e, el] at hlt
            exact hI _ hlt
          rw [← el] at hlt
          exact (g2 l' l hl' hl hll).2 hlt
        by_cases h2 : ∃ i, i < k + 1 ∧ R (x i) a
        · obtain ⟨i, hi, hia⟩ := h2
          let T : Nat → Prop := fun z => (S z ∧ z ≠ a) ∧ ¬ (f z = i ∧ (z = x i ∨ R z (x i)))
          have hTs : ∀ z, T z → S z := fun z hz => hz.1.1
          have hTac : ¬ AC R T (k + 1) := by
            rintro ⟨g, g1, g2⟩
            obtain ⟨l, hl, e⟩ := hit g (fun j hj => (g1 j hj).1) g2 i hi
            exact (g1 l hl).2 ⟨e, below i hi _ ⟨(g1 l hl).1, e, g, fun j hj => (g1 j hj).1, g2, l, hl, rfl⟩⟩
          have hm2 : meas n T < meas n S := meas_lt hTs (hn a ha) ha (fun hz => hz.1.2 rfl)
          obtain ⟨q, q1, q2⟩ := dilworth hT hI N k T (by omega) (fun z hz => hn z hz.1.1) hTac
          refine ⟨fun z => @ite _ (T z) (Classical.propDecidable _) (q z) k, fun z hz => ?_, fun z y hz hy hne e => ?_⟩
          · show @ite _ (T z) (Classical.propDecidable _) (q z) k < k + 1
            by_cases hzT : T z
            · rw [if_pos hzT]
              have := q1 z hzT
              omega
            · rw [if_neg hzT]
              omega
          · have e' : @ite _ (T z) (Classical.propDecidable _) (q z) k = @ite _ (T y) (Classical.propDecidable _) (q y) k := e
            have out : ∀ u, S u → ¬ T u → u = a ∨ (u ≠ a ∧ f u = i ∧ (u = x i ∨ R u (x i))) := fun u hu hnu => by
              by_cases hua : u = a
              · exact Or.inl hua
              · refine Or.inr ⟨hua, ?_⟩
                apply Classical.byContradiction
                intro hh
                exact hnu ⟨⟨hu, hua⟩, hh⟩
            have under : ∀ u, (u = x i ∨ R u (x i)) → R u a := fun u hu => by
              rcases hu with h | h
              · rw [h]; exact hia
              · exact hT _ _ _ h hia
            by_cases hzT : T z
            · by_cases hyT : T y
              · rw [if_pos hzT, if_pos hyT] at e'
                exact q2 z y hzT hyT hne e'
              · rw [if_pos hzT, if_neg hyT] at e'
                have := q1 z hzT
                omega
            · by_cases hyT : T y
              · rw [if_neg hzT, if_pos hyT] at e'
                have := q1 y hyT
                omega
              · rcases out z hz hzT with h3 | ⟨h3, h4, h5⟩
                · rcases out y hy hyT with h6 | ⟨h6, h7, h8⟩
                  · exact absurd (h3.trans h6.symm) hne
                  · exact Or.inr (h3 ▸ under y h8)
                · rcases out y hy hyT with h6 | ⟨h6, h7, h8⟩
                  · exact Or.inl (h6 ▸ under z h5)
                  · exact hf2 z y ⟨hz, h3⟩ ⟨hy, h6⟩ hne (h4.trans h7.symm)
        · exfalso
          refine hac ⟨fun i => if i = k + 1 then a else x i, fun i hi => ?_, fun i j hi hj hij => ?_⟩
          · show S (if i = k + 1 then a else x i)
            by_cases e : i = k + 1
            · rw [if_pos e]; exact ha
            · rw [if_neg e]; exact (hx i (by omega)).1.1.1
          · show (if i = k + 1 then a else x i) ≠ (if j = k + 1 then a else x j) ∧ ¬ R (if i = k + 1 then a else x i) (if j = k + 1 then a else x j)
            by_cases e : i = k + 1
            · rw [if_pos e, if_neg (show ¬ j = k + 1 by omega)]
              exact ⟨fun e' => (hx j (by omega)).1.1.2 e'.symm, hmax _ (hx j (by omega)).1.1.1⟩
            · by_cases e' : j = k + 1
              · rw [if_neg e, if_pos e']
                exact ⟨(hx i (by omega)).1.1.2, fun hR => h2 ⟨i, by omega, hR⟩⟩
              · rw [if_neg e, if_neg e']
                have := apart j i (by omega) (by omega) (fun e => hij e.symm)
                exact ⟨fun e => this.1 e.symm, this.2⟩
      · obtain ⟨f, hf1, hf2⟩ := dilworth hT hI N k (fun x => S x ∧ x ≠ a) (by omega) (fun x hx => hn x hx.1) h1
        refine ⟨fun z => if z = a then k else f z, fun z hz => ?_, fun z y hz hy hne e => ?_⟩
        · show (if z = a then k else f z) < k + 1
          by_cases e : z = a
          · rw [if_pos e]; omega
          · rw [if_neg e]
            have := hf1 z ⟨hz, e⟩
            omega
        · have e' : (if z = a then k else f z) = (if y = a then k else f y) := e
          by_cases e1 : z = a
          · by_cases e2 : y = a
            · exact absurd (e1.trans e2.symm) hne
            · rw [if_pos e1, if_neg e2] at e'
              have := hf1 y ⟨hy, e2⟩
              omega
          · by_cases e2 : y = a
            · rw [if_neg e1, if_pos e2] at e'
              have := hf1 z ⟨hz, e1⟩
              omega
            · rw [if_neg e1, if_neg e2] at e'
              exact hf2 z y ⟨hz, e1⟩ ⟨hy, e2⟩ hne e'
    · exact ⟨fun _ => 0, fun x hx => absurd ⟨x, hx⟩ hS, fun x _ hx => absurd ⟨x, hx⟩ hS⟩
end
end Go.Proofs.YtfjanniojphdoaaDoor
