/-
  Two relations in memory.
-/
import Derived.Test.YtcpmhflkooipdaaDoorBits
namespace Go.Proofs.YtcpmhflkooipdaaDoor
open Go.RowKit
set_option maxRecDepth 20000

/-- Two relations lie as they were laid; old memory is as it was. -/
structure TwoR (w0 : World) (n m : Int) (a c : Nat → Nat) (A C : Nat) (w : World) : Prop where
  below : Below w0.heap.size w0 w
  one : RelB w A n a
  two : RelB w C m c
theorem TwoR.next {w0 w w' : World} {n m : Int} {a c : Nat → Nat} {A C : Nat} (h : TwoR w0 n m a c A C w) (hb : Below w.heap.size w w') : TwoR w0 n m a c A C w' :=
  ⟨h.below.trans (hb.mono h.below.size), Lies.below h.one hb h.one.lt, Lies.below h.two hb h.two.lt⟩
theorem TwoR.tab {w0 w : World} {n m : Int} {a c : Nat → Nat} {A C : Nat} (h : TwoR w0 n m a c A C w) (hT : Tab w0 ∧ 0 < w0.heap.size) : Tab w := hT.1.below h.below hT.2
theorem TwoR.pos {w0 w : World} {n m : Int} {a c : Nat → Nat} {A C : Nat} (h : TwoR w0 n m a c A C w) (hT : Tab w0 ∧ 0 < w0.heap.size) : 0 < w.heap.size := Nat.lt_of_lt_of_le hT.2 h.below.size
end Go.Proofs.YtcpmhflkooipdaaDoor
