/-
  Plain: the table that Count fills.
-/
import Derived.Test.YtcpmhflkooipdaaDoorPure
namespace Go.Proofs.YtcpmhflkooipdaaDoor
open Go.RowKit
set_option maxRecDepth 20000

def upd (f : Nat → Int) (i : Nat) (x : Int) : Nat → Int := fun j => if j = i then x else f j
/-- What set d hands on to the sets that have one item more, over the items below m. -/
def pushed (next d : Nat) (f : Nat → Int) : Nat → Nat → Int
  | 0 => f
  | m + 1 => if next.testBit m = true then upd (pushed next d f m) (d ||| 2 ^ m) (wrap64 (pushed next d f m (d ||| 2 ^ m) + pushed next d f m d)) else pushed next d f m
/-- The table behind the first k sets. -/
def ctab (b : Nat → Nat) (n : Nat) : Nat → Nat → Int
  | 0 => fun s => if s = 0 then 1 else 0
  | k + 1 => pushed (rdyUp b k n) k (ctab b n k) n
theorem or_pow_lt {d m n : Nat} (hd : d < 2 ^ n) (hm : m < n) : d ||| 2 ^ m < 2 ^ n := Nat.or_lt_two_pow hd (Nat.pow_lt_pow_right (by omega) hm)
end Go.Proofs.YtcpmhflkooipdaaDoor
