/-
  Joined by a program out of: BtwRef.
-/
import Derived.Test.YtfgangkpebkicaaGreatDoorMgAA

/-
  Contract of the reference's Between.
-/
namespace Go.Proofs.YtfgangkpebkicaaGreatDoor
open Go.RowKit
set_option maxRecDepth 20000
theorem betweenI_any (a lo hi : Int) (w : World) : Calls Tryz.prog 9 #[.int .i64 a, .int .i64 lo, .int .i64 hi] w fun e w' => e = .returned (.bool (btw lo a hi)) ∧ w' = w := by
  have hb : btw lo a hi = true ↔ lo ≤ a ∧ a ≤ hi := btw_iff
  obtain ⟨r, hr⟩ : ∃ r, r = btw lo a hi := ⟨_, rfl⟩
  rw [← hr] at hb ⊢
  clear hr
  by_cases h1 : lo ≤ a
  · by_cases h2 : a ≤ hi
    · obtain rfl : r = true := hb.2 ⟨h1, h2⟩
      clear hb
      go_enter Tryz.func9, Tryz.ntmps9
      go_wp2_with fail
      go_ret
      exact ⟨rfl, rfl⟩
    · obtain rfl : r = false := Bool.eq_false_iff.2 fun h => h2 (hb.1 h).2
      clear hb
      go_enter Tryz.func9, Tryz.ntmps9
      go_wp2_with fail
      go_ret
      exact ⟨rfl, rfl⟩
  · obtain rfl : r = false := Bool.eq_false_iff.2 fun h => h1 (hb.1 h).1
    clear hb
    go_enter Tryz.func9, Tryz.ntmps9
    go_wp2_with fail
    go_ret
    exact ⟨rfl, rfl⟩
end Go.Proofs.YtfgangkpebkicaaGreatDoor
