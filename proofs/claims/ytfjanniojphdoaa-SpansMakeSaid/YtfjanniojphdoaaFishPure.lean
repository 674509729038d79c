/-
  Plain: a relation is one of spans just if Spanned says so; what was made tells the same; a relation compared with another one.
-/
import Derived.Test.YtfjanniojphdoaaSpLives
import Derived.Test.YtfjanniojphdoaaSpanned
import Derived.Laws.StructEq
namespace Go.Proofs.Ytfjanniojphdoaa
open Go.RowKit
set_option maxRecDepth 20000

theorem spOK_of {n : Nat} {a : Nat → Nat} (h : Chain2 n a) : SpOK n a := by
  intro x hx y hy z hz
  have hir := h.2
  refine ⟨fun u hu => ?_, ?_⟩
  · unfold bad4
    rw [hir x hx, Bool.false_or]
    cases h1 : (a x).testBit y
    · rfl
    cases h2 : (a z).testBit u
    · rfl
    cases h3 : (a x).testBit u
    · cases h4 : (a z).testBit y
      · exfalso
        rcases h.1 y u hy hu with hs | hs
        · have := rev_at.1 (hs x (rev_at.2 ⟨hx, hy, h1⟩))
          rw [h3] at this
          cases this.2.2
        · have := rev_at.1 (hs z (rev_at.2 ⟨hz, hu, h2⟩))
          rw [h4] at this
          cases this.2.2
      · rfl
    · rfl
  · unfold bad3
    cases h1 : (a x).testBit y
    · rfl
    cases h2 : (a y).testBit z
    · rfl
    cases h3 : (a x).testBit z
    · exfalso
      rcases h.1 y z hy hz with hs | hs
      · have := rev_at.1 (hs x (rev_at.2 ⟨hx, hy, h1⟩))
        rw [h3] at this
        cases this.2.2
      · have := rev_at.1 (hs y (rev_at.2 ⟨hy, hz, h2⟩))
        rw [hir y hy] at this
        cases this.2.2
    · rfl
theorem chain2_of {n : Nat} {a : Nat → Nat} (h : SpOK n a) : Chain2 n a := by
  have hir : ∀ i, i < n → (a i).testBit i = false := fun i hi => by
    have h1 := (h i hi i hi i hi).1 i hi
    unfold bad4 at h1
    rw [Bool.or_eq_false_iff] at h1
    exact h1.1
  refine ⟨fun i j hi hj => ?_, hir⟩
  by_cases h1 : Subs (rev n a i) (rev n a j)
  · exact Or.inl h1
  by_cases h2 : Subs (rev n a j) (rev n a i)
  · exact Or.inr h2
  exfalso
  obtain ⟨t, ht⟩ := Classical.not_forall.1 h1
  obtain ⟨s, hs⟩ := Classical.not_forall.1 h2
  rw [Classical.not_imp] at ht hs
  obtain ⟨t1, t2⟩ := ht
  obtain ⟨s1, s2⟩ := hs
  obtain ⟨htn, _, t3⟩ := rev_at.1 t1
  obtain ⟨hsn, _, s3⟩ := rev_at.1 s1
  have t4 : (a t).testBit j = false := by
    cases e : (a t).testBit j
    · rfl
    · exact absurd (rev_at.2 ⟨htn, hj, e⟩) t2
  have s4 : (a s).testBit i = false := by
    cases e : (a s).testBit i
    · rfl
    · exact absurd (rev_at.2 ⟨hsn, hi, e⟩) s2
  have h3 := (h t htn i hi s hsn).1 j hj
  unfold bad4 at h3
  rw [t3, s3, t4, s4] at h3
  simp at h3
theorem spOK_closed {n : Nat} {a : Nat → Nat} (h : SpOK n a) (hg : Good n a) : clo n a = a ∧ cyc a n = false := by
  have hc := chain2_of h
  constructor
  · refine warsh_still (fun i hi v hv hiv j hj => ?_) n (Nat.le_refl _)
    have hjn : j < n := hg.inn (show v < 12 by have := hg.le; omega) hj
    have h1 := (h i hi v hv j hjn).2
    unfold bad3 at h1
    rw [hiv, hj] at h1
    simpa using h1
  · cases hy : cyc a n
    · rfl
    · obtain ⟨v, hv, hvv⟩ := (cyc_iff a n).1 hy
      rw [hc.2 v hv] at hvv
      cases hvv

theorem spRel_again {m : Nat} {F T : Nat → Int} (h : ∀ i j, i < m → j < m → ((spRel m F T i).testBit j = true ↔ toOf m (spRel m F T) i < frOf m (spRel m F T) j)) :
    spRel m (fun i => (frOf m (spRel m F T) i : Int)) (fun i => (toOf m (spRel m F T) i : Int)) = spRel m F T := by
  funext i
  apply Nat.eq_of_testBit_eq
  intro j
  by_cases hi : i < m
  · by_cases hj : j < m
    · have h1 := h i j hi hj
      rw [Bool.eq_iff_iff, h1, spRel_bit]
      simp only [Bool.and_eq_true, decide_eq_true_iff]
      constructor
      · intro h2
        have := h2.2
        omega
      · intro h2
        exact ⟨⟨hi, hj⟩, by omega⟩
    · rw [spRel_bit, spRel_bit]; simp [hj]
  · rw [spRel_bit, spRel_bit]; simp [hi]

/-- Two tables of twelve sets that are not the same. -/
theorem rows_diff (x y : Nat → Nat) (h : ∃ k, k < 12 ∧ x k ≠ y k) (w : World) :
    (Op.equalIn 9999 24 (.agg #[.int .u16 (x 0 : Nat), .int .u16 (x 1 : Nat), .int .u16 (x 2 : Nat), .int .u16 (x 3 : Nat), .int .u16 (x 4 : Nat), .int .u16 (x 5 : Nat), .int .u16 (x 6 : Nat), .int .u16 (x 7 : Nat), .int .u16 (x 8 : Nat), .int .u16 (x 9 : Nat), .int .u16 (x 10 : Nat), .int .u16 (x 11 : Nat)])
      (.agg #[.int .u16 (y 0 : Nat), .int .u16 (y 1 : Nat), .int .u16 (y 2 : Nat), .int .u16 (y 3 : Nat), .int .u16 (y 4 : Nat), .int .u16 (y 5 : Nat), .int .u16 (y 6 : Nat), .int .u16 (y 7 : Nat), .int .u16 (y 8 : Nat), .int .u16 (y 9 : Nat), .int .u16 (y 10 : Nat), .int .u16 (y 11 : Nat)])).run Try.prog w = .ok false w := by
  have h1 := Try.underlying23
  have h2 := Try.isAgg23
  have h3 := Try.sizeOf23
  have hall : ¬ ((x 0 : Int) = (y 0 : Int) ∧ (x 1 : Int) = (y 1 : Int) ∧ (x 2 : Int) = (y 2 : Int) ∧ (x 3 : Int) = (y 3 : Int) ∧ (x 4 : Int) = (y 4 : Int) ∧ (x 5 : Int) = (y 5 : Int) ∧ (x 6 : Int) = (y 6 : Int) ∧ (x 7 : Int) = (y 7 : Int) ∧ (x 8 : Int) = (y 8 : Int) ∧ (x 9 : Int) = (y 9 : Int) ∧ (x 10 : Int) = (y 10 : Int) ∧ (x 11 : Int) = (y 11 : Int)) := by
    rintro ⟨e0, e1, e2, e3, e4, e5, e6, e7, e8, e9, e10, e11⟩
    obtain ⟨k, hk, hne⟩ := h
    rcases nat12 hk with rfl | rfl | rfl | rfl | rfl | rfl | rfl | rfl | rfl | rfl | rfl | rfl <;> omega
  clear h
  generalize (x 0 : Int) = x0 at hall ⊢
  generalize (x 1 : Int) = x1 at hall ⊢
  generalize (x 2 : Int) = x2 at hall ⊢
  generalize (x 3 : Int) = x3 at hall ⊢
  generalize (x 4 : Int) = x4 at hall ⊢
  generalize (x 5 : Int) = x5 at hall ⊢
  generalize (x 6 : Int) = x6 at hall ⊢
  generalize (x 7 : Int) = x7 at hall ⊢
  generalize (x 8 : Int) = x8 at hall ⊢
  generalize (x 9 : Int) = x9 at hall ⊢
  generalize (x 10 : Int) = x10 at hall ⊢
  generalize (x 11 : Int) = x11 at hall ⊢
  rw [show (9999 : Nat) = 9998 + 1 from rfl, Op.equalIn]
  simp only [Sem.run_bind, run_underlying Try.underlying24, Result.andThen_ok]
  simp only [Std.Legacy.Range.forIn_eq_forIn_range', Std.Legacy.Range.size, Nat.sub_zero, Nat.add_sub_cancel, Nat.div_one, List.range'_succ, List.range'_zero, List.forIn_cons, List.forIn_nil]
  go_simp
  intro e0 e1 e2 e3 e4 e5 e6 e7 e8 e9 e10 e11
  exact hall ⟨e0, e1, e2, e3, e4, e5, e6, e7, e8, e9, e10, e11⟩
end Go.Proofs.Ytfjanniojphdoaa
