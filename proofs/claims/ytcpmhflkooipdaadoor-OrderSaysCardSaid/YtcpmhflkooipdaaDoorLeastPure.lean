/-
  Plain: the list that Least makes.
-/
import Derived.Test.YtcpmhflkooipdaaDoorPure
import Derived.Test.YtcpmhflkooipdaaDoorBitsPure
namespace Go.Proofs.YtcpmhflkooipdaaDoor
open Go.RowKit
set_option maxRecDepth 20000

/-- The lowest item of a set of sixteen; 16 where it is empty. -/
def nextOf (r : Nat) : Nat := if r = 0 then 16 else tz r
def lsD (b : Nat → Nat) (n : Nat) : Nat → Nat
  | 0 => 0
  | k + 1 => lsD b n k ||| (2 ^ nextOf (rdyUp b (lsD b n k) n) % 65536)
def lsL (b : Nat → Nat) (n : Nat) : Nat → List Int
  | 0 => []
  | k + 1 => lsL b n k ++ [(nextOf (rdyUp b (lsD b n k) n) : Int)]
theorem lsD_lt (b : Nat → Nat) (n : Nat) : ∀ k, lsD b n k < 65536
  | 0 => by unfold lsD; decide
  | k + 1 => by
    unfold lsD
    exact Nat.or_lt_two_pow (n := 16) (lsD_lt b n k) (Nat.mod_lt _ (by decide))
theorem lsL_length (b : Nat → Nat) (n : Nat) : ∀ k, (lsL b n k).length = k
  | 0 => rfl
  | k + 1 => by unfold lsL; rw [List.length_append, lsL_length b n k]; rfl
end Go.Proofs.YtcpmhflkooipdaaDoor
