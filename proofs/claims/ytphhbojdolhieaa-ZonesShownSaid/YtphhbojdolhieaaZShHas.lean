/-
  The closure has of ZonesShown.
-/
import Derived.Test.YtphhbojdolhieaaZShIdx
namespace Go.Proofs.Ytphhbojdolhieaa
open Go.RowKit
set_option maxRecDepth 20000

set_option maxHeartbeats 2000000 in
theorem zhas_any (v : Int) (c : Cl) (W : World) : Calls Try.prog 16 #[.int .i64 v, clA c] W fun e w' => e = .returned (.bool (hasV v c)) ∧ Below W.heap.size W w' := by
  obtain ⟨r, hr⟩ : ∃ r, r = hasV v c := ⟨_, rfl⟩
  rw [← hr]
  have hi := hasV_iff (v := v) (c := c)
  rw [← hr] at hi
  have HR := Lib.hid hi
  clear hr hi
  obtain ⟨y0, y1, y2, y3, y4, y5, y6⟩ := c
  simp only at HR
  have H1 := Lib.hid ((Below.refl W.heap.size W).alloc (Nat.le_refl _) (.cells #[.int .i64 y0, .int .i64 y1, .int .i64 y2, .int .i64 y3, .int .i64 y4, .int .i64 y5, .int .i64 y6] 47))
  by_cases h1 : y2 = 1
  · subst h1
    by_cases h2 : y3 = v
    · subst h2
      obtain rfl : r = true := HR.out.2 (.inl ⟨rfl, rfl⟩)
      go_enter Try.func16, Try.ntmps16
      go_wp2_with fail
      go_ret
      exact ⟨rfl, H1.out⟩
    · obtain rfl : r = false := Bool.eq_false_iff.2 fun h => by
        rcases HR.out.1 h with h | h
        · exact h2 h.2
        · exact absurd h.1 (by decide)
      have b1 : (y3 == v) = false := beq_eq_false_iff_ne.2 h2
      clear h2
      go_enter Try.func16, Try.ntmps16
      go_wp2_with fail
      go_ret
      exact ⟨rfl, H1.out⟩
  · have b0 : (y2 == 1) = false := beq_eq_false_iff_ne.2 h1
    by_cases h2 : y2 = 2
    · subst h2
      clear h1 b0
      by_cases h3 : y6 = -1
      · subst h3
        obtain rfl : r = false := Bool.eq_false_iff.2 fun h => by
          rcases HR.out.1 h with h | h
          · exact absurd h.1 (by decide)
          · exact h.2.1 rfl
        go_enter Try.func16, Try.ntmps16
        go_wp2_with fail
        go_ret
        exact ⟨rfl, H1.out⟩
      · have b3 : (y6 != -1) = true := by rw [bne_iff_ne]; exact h3
        by_cases h4 : y4 = v
        · subst h4
          obtain rfl : r = true := HR.out.2 (.inr ⟨rfl, h3, rfl⟩)
          clear h3
          go_enter Try.func16, Try.ntmps16
          go_wp2_with fail
          go_ret
          exact ⟨rfl, H1.out⟩
        · obtain rfl : r = false := Bool.eq_false_iff.2 fun h => by
            rcases HR.out.1 h with h | h
            · exact absurd h.1 (by decide)
            · exact h4 h.2.2
          have b4 : (y4 == v) = false := beq_eq_false_iff_ne.2 h4
          clear h3 h4
          go_enter Try.func16, Try.ntmps16
          go_wp2_with fail
          go_ret
          exact ⟨rfl, H1.out⟩
    · obtain rfl : r = false := Bool.eq_false_iff.2 fun h => by
        rcases HR.out.1 h with h | h
        · exact h1 h.1
        · exact h2 h.1
      have b2 : (y2 == 2) = false := beq_eq_false_iff_ne.2 h2
      clear h1 h2
      go_enter Try.func16, Try.ntmps16
      go_wp2_with fail
      go_ret
      exact ⟨rfl, H1.out⟩
end Go.Proofs.Ytphhbojdolhieaa
