/-
  Plain: how place goes through the chains.
-/
import Derived.Test.YtfjanniojphdoaaDoorCountPure
namespace Go.Proofs.YtfjanniojphdoaaDoor
open Go.RowKit
set_option maxRecDepth 20000

def updN (f : Nat → Nat) (i : Nat) (x : Nat) : Nat → Nat := fun j => if j = i then x else f j
/-- What an attempt comes to: whether it is possible, the chains, the numbers. -/
structure PRes where
  ok : Bool
  ch : Nat → Nat
  nu : Nat → Int
def tryK (go : (Nat → Nat) → (Nat → Int) → PRes) (rel : Nat → Nat) (item : Nat) : Nat → Nat → (Nat → Nat) → (Nat → Int) → PRes
  | 0, _, ch, nu => ⟨false, ch, nu⟩
  | m + 1, k, ch, nu =>
    if ch k &&& (65535 - rel item) = 0 then
      if (go (updN ch k (ch k ||| 2 ^ item)) (upd nu item k)).ok = true then ⟨true, (go (updN ch k (ch k ||| 2 ^ item)) (upd nu item k)).ch, (go (updN ch k (ch k ||| 2 ^ item)) (upd nu item k)).nu⟩
      else if ch k = 0 then ⟨false, updN (go (updN ch k (ch k ||| 2 ^ item)) (upd nu item k)).ch k (ch k), (go (updN ch k (ch k ||| 2 ^ item)) (upd nu item k)).nu⟩
      else tryK go rel item m (k + 1) (updN (go (updN ch k (ch k ||| 2 ^ item)) (upd nu item k)).ch k (ch k)) (go (updN ch k (ch k ||| 2 ^ item)) (upd nu item k)).nu
    else tryK go rel item m (k + 1) ch nu
/-- place, with f items still to come; K chains, n items. -/
def placeM (rel : Nat → Nat) (K n : Nat) : Nat → (Nat → Nat) → (Nat → Int) → PRes
  | 0, ch, nu => ⟨true, ch, nu⟩
  | f + 1, ch, nu => tryK (placeM rel K n f) rel (n - (f + 1)) K 0 ch nu
end Go.Proofs.YtfjanniojphdoaaDoor
