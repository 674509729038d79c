/-
  Plain: the antichain that widest finds.
-/
import Derived.Test.YtfjanniojphdoaaDoorPure
import Derived.Test.YtfjanniojphdoaaDoorBitsPure
namespace Go.Proofs.YtfjanniojphdoaaDoor
open Go.RowKit
set_option maxRecDepth 20000

/-- None of the first m items of s stands ahead of one of s. -/
def antiUp (c : Nat → Nat) (s : Nat) : Nat → Bool
  | 0 => true
  | m + 1 => antiUp c s m && !(s.testBit m && decide (c m &&& s ≠ 0))
theorem antiUp_mono {c : Nat → Nat} {s : Nat} : ∀ {m n : Nat}, m ≤ n → antiUp c s m = false → antiUp c s n = false
  | m, 0, h, h0 => by
    have : m = 0 := by omega
    subst this; exact h0
  | m, n + 1, h, h0 => by
    by_cases e : m = n + 1
    · subst e; exact h0
    · unfold antiUp; rw [antiUp_mono (show m ≤ n by omega) h0]; rfl
/-- Set a is ahead of set b: it is longer, or as long and less. -/
def cb (a b : Nat) : Bool := if pop a = pop b then decide (a ^^^ b ≠ 0) && a.testBit (tz (a ^^^ b)) else decide (pop b < pop a)
def wideUp (c : Nat → Nat) (n : Nat) : Nat → Nat
  | 0 => 0
  | k + 1 => if cb k (wideUp c n k) = true ∧ antiUp c k n = true then k else wideUp c n k
theorem wideUp_lt (c : Nat → Nat) (n : Nat) : ∀ k, wideUp c n k ≤ k
  | 0 => Nat.le_refl _
  | k + 1 => by unfold wideUp; have := wideUp_lt c n k; split <;> omega
/-- The items of s below m. -/
def itemsUp (s : Nat) : Nat → List Int
  | 0 => []
  | m + 1 => if s.testBit m = true then itemsUp s m ++ [(m : Int)] else itemsUp s m
theorem itemsUp_length (s : Nat) : ∀ m, (itemsUp s m).length ≤ m
  | 0 => Nat.le_refl _
  | m + 1 => by
    unfold itemsUp
    have := itemsUp_length s m
    split
    · rw [List.length_append]; simp; omega
    · omega
end Go.Proofs.YtfjanniojphdoaaDoor
