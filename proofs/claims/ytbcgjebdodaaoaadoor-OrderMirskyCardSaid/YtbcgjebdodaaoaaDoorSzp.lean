/-
  alibkeep.OrderSzpilrajn answers true: the ways that end before the two items are looked at.
-/
import Derived.Test.YtbcgjebdodaaoaaDoorAlive
import Derived.Test.YtbcgjebdodaaoaaDoorIdx
import Derived.Test.YtbcgjebdodaaoaaDoorGood
namespace Go.Proofs.YtbcgjebdodaaoaaDoor
open Go.RowKit

/-- The relation lies as it was handed in; old memory is as it was. -/
structure OneR (w0 : World) (n : Int) (a : Nat → Nat) (w : World) : Prop where
  below : Below w0.heap.size w0 w
  one : RelB w w0.heap.size n a
theorem OneR.start (w0 : World) (n : Int) (a : Nat → Nat) : OneR w0 n a (w0.alloc (.cells (relCs n a) 25)) := ⟨(Below.refl _ _).alloc (Nat.le_refl _) _, Lies.new _ _ _⟩
theorem OneR.next {w0 w w' : World} {n : Int} {a : Nat → Nat} (h : OneR w0 n a w) (hb : Below w.heap.size w w') : OneR w0 n a w' := ⟨h.below.trans (hb.mono h.below.size), Lies.below h.one hb h.one.lt⟩
theorem OneR.tab {w0 w : World} {n : Int} {a : Nat → Nat} (h : OneR w0 n a w) (hT : Tab w0 ∧ 0 < w0.heap.size) : Tab w := hT.1.below h.below hT.2
theorem OneR.pos {w0 w : World} {n : Int} {a : Nat → Nat} (h : OneR w0 n a w) (hT : Tab w0 ∧ 0 < w0.heap.size) : 0 < w.heap.size := Nat.lt_of_lt_of_le hT.2 h.below.size

set_option maxHeartbeats 1000000 in
theorem szp_err (n : Int) (a : Nat → Nat) (i j E : Int) (w : World) (hE : (E != 0) = true)
    (hCl : ∀ w, Calls Tryd.prog 11 #[relV n a] w fun e w' => e = .returned (.tuple #[zeroV, .bool false, .int .i64 E]) ∧ Below w.heap.size w w')
    (hLe : ∀ w, Calls Tryd.prog 14 #[relV n a] w fun e w' => e = .returned (.tuple #[.slice none 0 0, .int .i64 E]) ∧ Below w.heap.size w w')
    (hCo : ∀ w, Calls Tryd.prog 13 #[relV n a] w fun e w' => e = .returned (.tuple #[.int .i64 0, .int .i64 E]) ∧ Below w.heap.size w w') (hT : Tab w) (hpos : 0 < w.heap.size) :
    Calls Tryd.prog 7 #[relV n a, .int .i64 i, .int .i64 j] w fun e w' => e = .returned (.bool true) ∧ Below w.heap.size w w' := by
  have HT := Lib.hid (And.intro hT hpos)
  clear hT hpos
  go_enter Tryd.func7, Tryd.ntmps7
  have H := Lib.hid (OneR.start w n a)
  go_wp2_with fail
  refine (hCl _).mono ?_
  rintro e w1 ⟨rfl, hb1⟩
  have h1 := H.out.next hb1
  clear H hb1
  have hlt := h1.one.lt
  have c0 := h1.one.size
  obtain ⟨c1, c2, c3, c4, c5, c6, c7, c8, c9, c10, c11, c12⟩ := h1.one.rows
  have H := Lib.hid h1
  clear h1
  go_wp2_with fail
  clear hlt c0 c1 c2 c3 c4 c5 c6 c7 c8 c9 c10 c11 c12
  have h1 := H.out.next ((Below.refl _ _).alloc (Nat.le_refl _) (.cells (relCs 0 fun _ => 0) 25))
  clear H
  have H := Lib.hid h1
  clear h1
  refine (hLe _).mono ?_
  rintro e w2 ⟨rfl, hb2⟩
  have h2 := H.out.next hb2
  clear H hb2
  have hlt := h2.one.lt
  have c0 := h2.one.size
  obtain ⟨c1, c2, c3, c4, c5, c6, c7, c8, c9, c10, c11, c12⟩ := h2.one.rows
  have H := Lib.hid h2
  clear h2
  go_wp2_with fail
  clear hlt c0 c1 c2 c3 c4 c5 c6 c7 c8 c9 c10 c11 c12
  refine (hCo _).mono ?_
  rintro e w3 ⟨rfl, hb3⟩
  have h3 := H.out.next hb3
  clear H hb3
  have hlt := h3.one.lt
  have c0 := h3.one.size
  obtain ⟨c1, c2, c3, c4, c5, c6, c7, c8, c9, c10, c11, c12⟩ := h3.one.rows
  have H := Lib.hid h3
  clear h3
  go_wp2_with fail
  clear hlt c0 c1 c2 c3 c4 c5 c6 c7 c8 c9 c10 c11 c12
  refine (lives_true _ (H.out.tab HT.out) (H.out.pos HT.out)).mono ?_
  rintro e w4 ⟨rfl, hb4⟩
  have h4 := H.out.next hb4
  clear H hb4
  have hlt := h4.one.lt
  have c0 := h4.one.size
  obtain ⟨c1, c2, c3, c4, c5, c6, c7, c8, c9, c10, c11, c12⟩ := h4.one.rows
  have H := Lib.hid h4
  clear h4
  go_wp2_with fail
  clear hlt c0 c1 c2 c3 c4 c5 c6 c7 c8 c9 c10 c11 c12
  refine (lives_true _ (H.out.tab HT.out) (H.out.pos HT.out)).mono ?_
  rintro e w5 ⟨rfl, hb5⟩
  have h5 := H.out.next hb5
  clear H hb5
  have H := Lib.hid h5
  clear h5
  go_wp2_with fail
  go_ret
  exact ⟨rfl, H.out.below⟩

set_option maxHeartbeats 1000000 in
theorem szp_round (n : Int) (a c : Nat → Nat) (i j : Int) (w : World)
    (hCl : ∀ w, Calls Tryd.prog 11 #[relV n a] w fun e w' => e = .returned (.tuple #[relV n c, .bool true, .int .i64 0]) ∧ Below w.heap.size w w')
    (hLe : ∀ w, Calls Tryd.prog 14 #[relV n a] w fun e w' => e = .returned (.tuple #[.slice none 0 0, .int .i64 4]) ∧ Below w.heap.size w w')
    (hCo : ∀ w, Calls Tryd.prog 13 #[relV n a] w fun e w' => e = .returned (.tuple #[.int .i64 0, .int .i64 4]) ∧ Below w.heap.size w w') (hT : Tab w) (hpos : 0 < w.heap.size) :
    Calls Tryd.prog 7 #[relV n a, .int .i64 i, .int .i64 j] w fun e w' => e = .returned (.bool true) ∧ Below w.heap.size w w' := by
  have HT := Lib.hid (And.intro hT hpos)
  clear hT hpos
  go_enter Tryd.func7, Tryd.ntmps7
  have H := Lib.hid (OneR.start w n a)
  go_wp2_with fail
  refine (hCl _).mono ?_
  rintro e w1 ⟨rfl, hb1⟩
  have h1 := H.out.next hb1
  clear H hb1
  have hlt := h1.one.lt
  have c0 := h1.one.size
  obtain ⟨c1, c2, c3, c4, c5, c6, c7, c8, c9, c10, c11, c12⟩ := h1.one.rows
  have H := Lib.hid h1
  clear h1
  go_wp2_with fail
  clear hlt c0 c1 c2 c3 c4 c5 c6 c7 c8 c9 c10 c11 c12
  have h1 := H.out.next ((Below.refl _ _).alloc (Nat.le_refl _) (.cells (relCs n c) 25))
  clear H
  have H := Lib.hid h1
  clear h1
  refine (hLe _).mono ?_
  rintro e w2 ⟨rfl, hb2⟩
  have h2 := H.out.next hb2
  clear H hb2
  have hlt := h2.one.lt
  have c0 := h2.one.size
  obtain ⟨c1, c2, c3, c4, c5, c6, c7, c8, c9, c10, c11, c12⟩ := h2.one.rows
  have H := Lib.hid h2
  clear h2
  go_wp2_with fail
  clear hlt c0 c1 c2 c3 c4 c5 c6 c7 c8 c9 c10 c11 c12
  refine (hCo _).mono ?_
  rintro e w3 ⟨rfl, hb3⟩
  have h3 := H.out.next hb3
  clear H hb3
  have hlt := h3.one.lt
  have c0 := h3.one.size
  obtain ⟨c1, c2, c3, c4, c5, c6, c7, c8, c9, c10, c11, c12⟩ := h3.one.rows
  have H := Lib.hid h3
  clear h3
  go_wp2_with fail
  clear hlt c0 c1 c2 c3 c4 c5 c6 c7 c8 c9 c10 c11 c12
  refine (lives_true _ (H.out.tab HT.out) (H.out.pos HT.out)).mono ?_
  rintro e w4 ⟨rfl, hb4⟩
  have h4 := H.out.next hb4
  clear H hb4
  have H := Lib.hid h4
  clear h4
  go_wp2_with fail
  go_ret
  exact ⟨rfl, H.out.below⟩
end Go.Proofs.YtbcgjebdodaaoaaDoor
