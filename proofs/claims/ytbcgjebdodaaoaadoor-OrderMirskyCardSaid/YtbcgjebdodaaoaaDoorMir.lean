/-
  alibkeep.OrderMirsky answers true, whatever the relation.
-/
import Derived.Test.YtbcgjebdodaaoaaDoorSzpOut
import Derived.Test.YtbcgjebdodaaoaaDoorMirPure
namespace Go.Proofs.YtbcgjebdodaaoaaDoor
open Go.RowKit

set_option maxHeartbeats 1000000 in
theorem mir_err (n : Int) (a : Nat → Nat) (m : Int) (c : Nat → Nat) (b : Bool) (E g : Int) (w : World) (hE : (E != 0) = true) (hF : Fails n a E)
    (hCl : ∀ w, Calls Tryd.prog 11 #[relV n a] w fun e w' => e = .returned (.tuple #[relV m c, .bool b, .int .i64 g]) ∧ Below w.heap.size w w') (hT : Tab w) (hpos : 0 < w.heap.size) :
    Calls Tryd.prog 8 #[relV n a] w fun e w' => e = .returned (.bool true) ∧ Below w.heap.size w w' := by
  have hE0 : E ≠ 0 := (by simpa using hE)
  have HT := Lib.hid (And.intro hT hpos)
  clear hT hpos
  go_enter Tryd.func8, Tryd.ntmps8
  have H := Lib.hid (OneR.start w n a)
  go_wp2_with fail
  refine (ranks_err n a E _ hE hF).mono ?_
  rintro e w1 ⟨rfl, hb1⟩
  have h1 := H.out.next hb1
  clear H hb1
  have hlt := h1.one.lt
  have c0 := h1.one.size
  obtain ⟨c1, c2, c3, c4, c5, c6, c7, c8, c9, c10, c11, c12⟩ := h1.one.rows
  have H := Lib.hid h1
  clear h1
  go_wp2_with fail
  clear hlt c0 c1 c2 c3 c4 c5 c6 c7 c8 c9 c10 c11 c12
  refine (chain_err n a E _ hE hF).mono ?_
  rintro e w2 ⟨rfl, hb2⟩
  have h2 := H.out.next hb2
  clear H hb2
  have hlt := h2.one.lt
  have c0 := h2.one.size
  obtain ⟨c1, c2, c3, c4, c5, c6, c7, c8, c9, c10, c11, c12⟩ := h2.one.rows
  have H := Lib.hid h2
  clear h2
  go_wp2_with fail
  clear hlt c0 c1 c2 c3 c4 c5 c6 c7 c8 c9 c10 c11 c12
  refine (hCl _).mono ?_
  rintro e w3 ⟨rfl, hb3⟩
  have h3 := H.out.next hb3
  clear H hb3
  have hlt := h3.one.lt
  have c0 := h3.one.size
  obtain ⟨c1, c2, c3, c4, c5, c6, c7, c8, c9, c10, c11, c12⟩ := h3.one.rows
  have H := Lib.hid h3
  clear h3
  go_wp2_with fail
  clear hlt c0 c1 c2 c3 c4 c5 c6 c7 c8 c9 c10 c11 c12
  have h3 := H.out.next ((Below.refl _ _).alloc (Nat.le_refl _) (.cells (relCs m c) 25))
  clear H
  have H := Lib.hid h3
  clear h3
  refine (lives_true _ (H.out.tab HT.out) (H.out.pos HT.out)).mono ?_
  rintro e w4 ⟨rfl, hb4⟩
  have h4 := H.out.next hb4
  clear H hb4
  have hlt := h4.one.lt
  have c0 := h4.one.size
  obtain ⟨c1, c2, c3, c4, c5, c6, c7, c8, c9, c10, c11, c12⟩ := h4.one.rows
  have H := Lib.hid h4
  clear h4
  go_wp2_with fail
  clear hlt c0 c1 c2 c3 c4 c5 c6 c7 c8 c9 c10 c11 c12
  refine (ok_not (IRd.fresh w4 26 [E, E, g] _ rfl _ rfl) (x := E) (by simp) hE0 (by simp)).mono ?_
  rintro e w5 ⟨rfl, rfl⟩
  have h5 := H.out.next ((Below.refl w4.heap.size w4).alloc (Nat.le_refl _) (.cells #[.int .i64 E, .int .i64 E, .int .i64 g] 26))
  clear H
  have H := Lib.hid h5
  clear h5
  go_wp2_with fail
  refine (lives_true _ (H.out.tab HT.out) (H.out.pos HT.out)).mono ?_
  rintro e w6 ⟨rfl, hb6⟩
  have h6 := H.out.next hb6
  clear H hb6
  have H := Lib.hid h6
  clear h6
  go_wp2_with fail
  go_ret
  exact ⟨by simp, H.out.below⟩
end Go.Proofs.YtbcgjebdodaaoaaDoor
