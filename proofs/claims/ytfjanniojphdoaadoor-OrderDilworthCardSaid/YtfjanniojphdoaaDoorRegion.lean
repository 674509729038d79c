/-
  A rule for a region that draws its order: a fact about what has been done so far, kept by each operation that may come up. And the region of order.Chains that makes the partition.
-/
import Derived.Test.YtfjanniojphdoaaDoorApart
import Derived.Test.YtfjanniojphdoaaDoorPlace
import Derived.Deep.RegionWith
namespace Go.Proofs.YtfjanniojphdoaaDoor
open Go.RowKit
set_option maxRecDepth 20000

theorem filter_less {p q : Nat → Bool} (hqp : ∀ x, q x = true → p x = true) {i : Nat} (h1 : p i = true) (h2 : q i = false) : ∀ l : List Nat, i ∈ l → (l.filter q).length < (l.filter p).length
  | [], h => by cases h
  | x :: l, h => by
    have step : (l.filter q).length ≤ (l.filter p).length := by
      clear h
      induction l with
      | nil => exact Nat.le_refl _
      | cons y l ih =>
        by_cases hy : q y = true
        · rw [List.filter_cons_of_pos hy, List.filter_cons_of_pos (hqp y hy)]; simpa using ih
        · rw [List.filter_cons_of_neg hy]
          by_cases hy' : p y = true
          · rw [List.filter_cons_of_pos hy']; simp; omega
          · rw [List.filter_cons_of_neg hy']; exact ih
    by_cases hx : x = i
    · subst hx
      rw [List.filter_cons_of_pos h1, List.filter_cons_of_neg (by rw [h2]; decide)]
      simp; omega
    · have hi : i ∈ l := by
        rcases List.mem_cons.1 h with h | h
        · exact absurd h.symm hx
        · exact h
      have ih := filter_less hqp h1 h2 l hi
      by_cases hy : q x = true
      · rw [List.filter_cons_of_pos hy, List.filter_cons_of_pos (hqp x hy)]; simpa using ih
      · rw [List.filter_cons_of_neg hy]
        by_cases hy' : p x = true
        · rw [List.filter_cons_of_pos hy']; simp; omega
        · rw [List.filter_cons_of_neg hy']; exact ih

section
variable {P : Program} {ops : Array Oper} {Q : Exit → Act → World → Prop} {a0 : Act}

/-- How many operations are still to come. -/
def toCome (ops : Array Oper) (l : Array Bool) : Nat := ((List.range ops.size).filter fun i => !l.getD i true).length

theorem any_of_inv (Inv : Array Bool → Act → World → Prop) (hz : ∀ l a w, Inv l a w → l.size = ops.size)
    (hs : ∀ l a w, Inv l a w → ∀ i ∈ Region.ready .any ops l, wpOp P ops Q i (fun a' w' => Inv (l.setIfInBounds i true) a' w') a w)
    (hq : ∀ l a w, Inv l a w → Region.ready .any ops l = [] → Q .normal a w) : ∀ (fuel : Nat) (l : Array Bool) (a : Act) (w : World), toCome ops l ≤ fuel → Inv l a w → wpAny P .any ops Q fuel l a w
  | 0, l, a, w, hc, h => by
    have hr : Region.ready .any ops l = [] := by
      unfold Region.ready
      rw [List.filter_eq_nil_iff]
      intro i hi hp
      have : i ∈ (List.range ops.size).filter fun i => !l.getD i true := List.mem_filter.2 ⟨hi, by
        rw [Bool.and_eq_true] at hp
        exact hp.1⟩
      unfold toCome at hc
      have := List.length_pos_of_mem this
      omega
    exact ⟨hr, hq _ _ _ h hr⟩
  | fuel + 1, l, a, w, hc, h => by
    refine ⟨hq _ _ _ h, fun i hi => wpOp_mono (fun a' w' h' => any_of_inv Inv hz hs hq fuel _ _ _ ?_ h') (hs _ _ _ h i hi)⟩
    unfold Region.ready at hi
    obtain ⟨hin, hp⟩ := List.mem_filter.1 hi
    rw [Bool.and_eq_true] at hp
    have hlt : i < ops.size := List.mem_range.1 hin
    have hll : i < l.size := by rw [hz _ _ _ h]; exact hlt
    have hless : toCome ops (l.setIfInBounds i true) < toCome ops l := by
      refine filter_less (fun x hx => ?_) hp.1 ?_ _ hin
      · by_cases e : i = x
        · subst e; exact hp.1
        · simpa [Array.getD_eq_getD_getElem?, Array.getElem?_setIfInBounds, e] using hx
      · simp [Array.getD_eq_getD_getElem?, hll]
    omega

theorem region_of_inv (Inv : Array Bool → Act → World → Prop) {id : Nat} {w : World} (hm : P.follows .mixedOrders = true) (hz : ∀ l a w, Inv l a w → l.size = ops.size)
    (h0 : Inv (Array.replicate ops.size false) a0 w.drew)
    (hs : ∀ l a w, Inv l a w → ∀ i ∈ Region.ready .any ops l, wpOp P ops Q i (fun a' w' => Inv (l.setIfInBounds i true) a' w') a w)
    (hq : ∀ l a w, Inv l a w → Region.ready .any ops l = [] → Q .normal a w) : (Code.region id ops true).wp P Q a0 w := by
  refine wp_region_any hm ?_
  refine any_of_inv Inv hz hs hq _ _ _ _ ?_ h0
  unfold toCome
  exact Nat.le_trans (List.length_filter_le _ _) (by simp)
end
end Go.Proofs.YtfjanniojphdoaaDoor
