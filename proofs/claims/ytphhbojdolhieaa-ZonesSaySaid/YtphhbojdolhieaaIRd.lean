/-
  Slices that read as a list of integers.
-/
import Derived.Test.YtphhbojdolhieaaProg
import Derived.WalkKit
import Derived.Deep.QuietTactic
import Derived.BigQuiet
import Derived.Lib.Hide
namespace Go.Proofs.Ytphhbojdolhieaa
open Go.RowKit
set_option maxRecDepth 20000
/-- The value v is a slice that reads as the integers xs, in a block below B. -/
def IRd (w : World) (B : Nat) (v : Value) (xs : List Int) : Prop :=
  ∃ A cap, v = .slice A xs.length cap ∧ (0 < xs.length → ∃ g, A = some ⟨g, 0, none⟩ ∧ g < B ∧ ∀ j, j < xs.length → w.cell? ⟨g, j, none⟩ = some (.int .i64 (xs.getD j 0)))
theorem IRd.below {w w' : World} {B : Nat} {v : Value} {xs : List Int} (h : IRd w B v xs) (hb : Below B w w') : IRd w' B v xs := by
  obtain ⟨A, cap, hv, h2⟩ := h
  refine ⟨A, cap, hv, fun h0 => ?_⟩
  obtain ⟨g, hA, hg, hc⟩ := h2 h0
  exact ⟨g, hA, hg, fun j hj => (hb.cell (p := ⟨g, j, none⟩) hg).trans (hc j hj)⟩
theorem IRd.mono {w : World} {B B' : Nat} {v : Value} {xs : List Int} (h : IRd w B v xs) (hB : B ≤ B') : IRd w B' v xs := by
  obtain ⟨A, cap, hv, h2⟩ := h
  refine ⟨A, cap, hv, fun h0 => ?_⟩
  obtain ⟨g, hA, hg, hc⟩ := h2 h0
  exact ⟨g, hA, by omega, hc⟩
end Go.Proofs.Ytphhbojdolhieaa
