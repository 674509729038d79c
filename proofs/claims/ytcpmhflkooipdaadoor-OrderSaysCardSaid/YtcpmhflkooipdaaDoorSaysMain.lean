/-
  aliblaw.OrderSays answers true, whatever the relation.
-/
import Derived.Test.YtcpmhflkooipdaaDoorSaysRound
import Derived.Test.YtcpmhflkooipdaaDoorSaysBig
import Derived.Test.YtcpmhflkooipdaaDoorSaysFew
namespace Go.Proofs.YtcpmhflkooipdaaDoor
open Go.RowKit
set_option maxRecDepth 20000
theorem says_all (n : Int) (a : Nat → Nat) (w : World) (ha : ∀ i, a i < 65536) (hT : Tab w) (hpos : 0 < w.heap.size) :
    Calls Tryd.prog 3 #[relV n a] w fun e w' => e = .returned (.bool true) ∧ Below w.heap.size w w' := by
  rcases right_ways n a ha with ⟨E, hE, hc, hr⟩ | ⟨m, rfl, h, hc, hr⟩
  · exact says_err n a E w hE hc hr
  · cases hy : cyc (clo m a) m with
    | true => exact says_round m a w h hy hc hr
    | false =>
      by_cases h6 : (6 : Int) < m
      · exact says_big m a w h hy hT hpos hc hr h6
      · exact says_few m a w h hy hT hpos hc hr h6
end Go.Proofs.YtcpmhflkooipdaaDoor
