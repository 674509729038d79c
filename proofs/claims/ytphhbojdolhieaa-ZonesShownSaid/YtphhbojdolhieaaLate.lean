/-
  alibkeep.late: a read that is too old.
-/
import Derived.Test.YtphhbojdolhieaaLRd
namespace Go.Proofs.Ytphhbojdolhieaa
open Go.RowKit
set_option maxRecDepth 20000

/-- A read that is too old. -/
abbrev staleL : List Ev := [⟨0, 0, 1, 5⟩, ⟨0, 0, 0, 0⟩, ⟨1, 0, 2, 0⟩, ⟨1, 0, 0, 0⟩]
theorem late_any (w : World) : Calls Try.prog 34 #[] w fun e w' => ∃ g, e = .returned (.slice (some ⟨g, 0, none⟩) 4 4) ∧ ERd w' w'.heap.size (.slice (some ⟨g, 0, none⟩) 4 4) staleL ∧ Below w.heap.size w w' := by
  go_enter Try.func34, Try.ntmps34
  go_wp2_with fail
  go_ret
  refine ⟨w.heap.size, rfl, ?_, (Below.refl _ _).alloc (Nat.le_refl _) _⟩
  have := LRd.of_lit (f := evCs) (s := 4) (w := w) (l := staleL) (fun _ => rfl) 55 (cs := #[.int .i64 0, .int .i64 0, .int .i64 1, .int .i64 5, .int .i64 0, .int .i64 0, .int .i64 0, .int .i64 0, .int .i64 1, .int .i64 0, .int .i64 2, .int .i64 0, .int .i64 1, .int .i64 0, .int .i64 0, .int .i64 0]) rfl (n := 4) rfl (by unfold maxLen; omega)
  simpa using this
end Go.Proofs.Ytphhbojdolhieaa
