/-
  Rows of events of the call's own: a cell is read, a cell is written.
-/
import Derived.Test.YtphhbojdolhieaaLRd
namespace Go.Proofs.Ytphhbojdolhieaa
open Go.RowKit
set_option maxRecDepth 20000
/-- One cell of a row of one's own is written. -/
theorem own_set {w : World} {B s n cap : Nat} {t : TypeId} {g : Nat} {xs : List Value} (h : w.ownsRow B t s (.slice (some ⟨g, 0, none⟩) n cap) n xs) (j : Nat) (u : Value) : (w.setCell ⟨g, j, none⟩ u).ownsRow B t s (.slice (some ⟨g, 0, none⟩) n cap) n (xs.set j u) := by
  refine ⟨by rw [List.length_set]; exact h.1, ?_⟩
  rcases h.2 with ⟨h', _⟩ | ⟨g', cap', cur, h', hB, hg, h1, h2, h3, h4⟩
  · simp at h'
  · simp only [Value.slice.injEq, Option.some.injEq, Addr.mk.injEq, and_true, true_and] at h'
    obtain ⟨rfl, rfl⟩ := h'
    refine .inr ⟨g, cap, cur.setIfInBounds j u, rfl, hB, Lies.set_ hg j u, h1, h2, by simpa using h3, ?_⟩
    rw [← h4, Array.toList_setIfInBounds, List.take_set]
theorem own_at {w : World} {B g n cap : Nat} {l : List Ev} (h : EOwn w B (.slice (some ⟨g, 0, none⟩) n cap) l) : B ≤ g := by
  rcases h.2 with ⟨h', _⟩ | ⟨g', cap', cur, h', hB, _⟩
  · simp at h'
  · simp only [Value.slice.injEq, Option.some.injEq, Addr.mk.injEq, and_true] at h'
    obtain ⟨rfl, -⟩ := h'
    exact hB
theorem EOwn.drew {w : World} {B : Nat} {v : Value} {l : List Ev} (h : EOwn w B v l) : EOwn w.drew B v l := h
theorem own_frozen {w : World} {B g n cap : Nat} {l : List Ev} (h : EOwn w B (.slice (some ⟨g, 0, none⟩) n cap) l) (j : Nat) : w.frozen? ⟨g, j, none⟩ = false := by
  rcases h.2 with ⟨h', _⟩ | ⟨g', cap', cur, h', hB, hg, _⟩
  · simp at h'
  · simp only [Value.slice.injEq, Option.some.injEq, Addr.mk.injEq, and_true] at h'
    obtain ⟨rfl, -⟩ := h'
    exact Lies.frozen hg j
theorem getD_ev {l : List Ev} {k : Nat} {x : Ev} (h : l[k]? = some x) : l.getD k default = x := by
  rw [List.getD_eq_getElem?_getD, h]
  rfl
theorem own_ev {w : World} {B g n cap k : Nat} {l : List Ev} (h : EOwn w B (.slice (some ⟨g, 0, none⟩) n cap) l) {x : Ev} (hk : l[k]? = some x) : w.cell? ⟨g, k * 4, none⟩ = some (.int .i64 x.who) ∧ w.cell? ⟨g, k * 4 + 1, none⟩ = some (.int .i64 x.thing) ∧ w.cell? ⟨g, k * 4 + 2, none⟩ = some (.int .i64 x.kind) ∧ w.cell? ⟨g, k * 4 + 3, none⟩ = some (.int .i64 x.val) := by
  obtain ⟨g', o', e, _, d0, d1, d2, d3⟩ := h.rd.ev hk
  injection e with e
  injection e with e1 e2
  subst e1 e2
  simp only [Nat.zero_add] at d0 d1 d2 d3
  exact ⟨d0, d1, d2, d3⟩
end Go.Proofs.Ytphhbojdolhieaa
