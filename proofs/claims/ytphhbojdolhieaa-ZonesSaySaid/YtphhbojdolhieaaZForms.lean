/-
  What zones.Check answers, in one form.
-/
import Derived.Test.YtphhbojdolhieaaZCheck
namespace Go.Proofs.Ytphhbojdolhieaa
open Go.RowKit Go.Maps
set_option maxRecDepth 20000
/-- What Check answers, in one form. -/
theorem CheckZ.forms {w w' : World} {l : List Ev} {e : Ending} (h : CheckZ w l e w') : ∃ b k x y, e = .returned (.tuple #[.bool b, .agg #[.int .i64 k, .int .i64 x, .int .i64 y], .int .i64 (zonesE l)]) ∧ Below w.heap.size w w' ∧
    (zonesE l = 0 → b = (k == 0) ∧ badZ (callsOf [1] l).1 = ⟨k, x, y⟩) ∧ (zonesE l ≠ 0 → b = false ∧ k = 0 ∧ x = 0 ∧ y = 0) := by
  obtain ⟨hb, ⟨h1, h2⟩ | ⟨h1, h2⟩⟩ := h
  · exact ⟨false, 0, 0, 0, h2, hb, fun h => absurd h h1, fun _ => ⟨rfl, rfl, rfl, rfl⟩⟩
  · exact ⟨_, _, _, _, by rw [h1]; exact h2, hb, fun _ => ⟨rfl, rfl⟩, fun h => absurd h1 h⟩
end Go.Proofs.Ytphhbojdolhieaa
