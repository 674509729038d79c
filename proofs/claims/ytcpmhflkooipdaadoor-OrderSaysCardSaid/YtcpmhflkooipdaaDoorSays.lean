/-
  aliblaw.OrderSays where Check finds a fault, and where something is round.
-/
import Derived.Test.YtcpmhflkooipdaaDoorErr
import Derived.Test.YtcpmhflkooipdaaDoorRelRight
import Derived.Test.YtcpmhflkooipdaaDoorClosedBy
import Derived.Test.YtcpmhflkooipdaaDoorSame
import Derived.Test.YtcpmhflkooipdaaDoorTwo
import Derived.Test.YtcpmhflkooipdaaDoorOrdAll
namespace Go.Proofs.YtcpmhflkooipdaaDoor
open Go.RowKit
set_option maxRecDepth 20000

/-- The reference tells E of the relation, whatever the memory. -/
def Rights (n : Int) (a : Nat → Nat) (E : Int) : Prop := ∀ w : World, Calls Tryd.prog 8 #[relV n a] w fun e w' => e = .returned (.int .i64 E) ∧ Below w.heap.size w w'

theorem right_ways (n : Int) (a : Nat → Nat) (ha : ∀ i, a i < 65536) : (∃ E, (E != 0) = true ∧ Checks n a E ∧ Rights n a E) ∨ ∃ m : Nat, n = m ∧ Good m a ∧ Checks n a 0 ∧ Rights n a 0 := by
  rcases rel_ways n a ha with h | ⟨m, rfl, hm, ⟨i, hi, hb⟩ | hg⟩
  · exact .inl ⟨1, rfl, fun w => check_arg n a w h, fun w => rright_arg n a w h⟩
  · refine .inl ⟨3, rfl, fun w => check_form m a w hm (fun i _ => ha i) i hi hb, fun w => (rright_go m a w hm).mono ?_⟩
    rintro e w' ⟨hb', ⟨rfl, _⟩ | ⟨_, h⟩⟩
    · exact ⟨rfl, hb'⟩
    · obtain ⟨j, hj, ho⟩ := out_of_bad (ha i) hb
      exact absurd ho (h i j hi hj)
  · refine .inr ⟨m, rfl, hg, fun w => check_ok m a w hm (fun i _ => ha i) hg.rows, fun w => (rright_go m a w hm).mono ?_⟩
    rintro e w' ⟨hb', ⟨_, i, j, hi, _, ho⟩ | ⟨rfl, _⟩⟩
    · exact absurd ho (good_not_out hg hi)
    · exact ⟨rfl, hb'⟩

set_option maxHeartbeats 4000000 in
theorem says_err (n : Int) (a : Nat → Nat) (E : Int) (w : World) (hE : (E != 0) = true) (hc : Checks n a E) (hr : Rights n a E) :
    Calls Tryd.prog 3 #[relV n a] w fun e w' => e = .returned (.bool true) ∧ Below w.heap.size w w' := by
  have hF : Fails n a E := fails_check hE hc
  have HF := Lib.hid hF
  have HC := Lib.hid (And.intro hc hr)
  have hE' : (E == 0) = false := by
    cases h : (E == 0)
    · rfl
    · rw [eq_of_beq h] at hE; cases hE
  have hbase : Below w.heap.size w (w.alloc (.cells (relCs n a) 25)) := (Below.refl _ _).alloc (Nat.le_refl _) _
  have HB := Lib.hid hbase
  clear hF hc hr hbase
  go_enter Tryd.func3, Tryd.ntmps3
  go_wp2_with fail
  refine (close_err n a E _ hE HC.out.1).mono ?_
  rintro e w1 ⟨rfl, hb1⟩
  have hA1 : RelB w1 w.heap.size n a := Lies.below (Lies.new w _ _) hb1 (by simp)
  have hw1 : Below w.heap.size w w1 := HB.out.trans (hb1.mono (by simp))
  have c0 := fun o => (show RelB (w1.alloc o) w.heap.size n a from Lies.alloc hA1 o).size
  have hcs := fun o => (show RelB (w1.alloc o) w.heap.size n a from Lies.alloc hA1 o).rows
  have c1 := fun o => (hcs o).1
  have c2 := fun o => (hcs o).2.1
  have c3 := fun o => (hcs o).2.2.1
  have c4 := fun o => (hcs o).2.2.2.1
  have c5 := fun o => (hcs o).2.2.2.2.1
  have c6 := fun o => (hcs o).2.2.2.2.2.1
  have c7 := fun o => (hcs o).2.2.2.2.2.2.1
  have c8 := fun o => (hcs o).2.2.2.2.2.2.2.1
  have c9 := fun o => (hcs o).2.2.2.2.2.2.2.2.1
  have c10 := fun o => (hcs o).2.2.2.2.2.2.2.2.2.1
  have c11 := fun o => (hcs o).2.2.2.2.2.2.2.2.2.2.1
  have c12 := fun o => (hcs o).2.2.2.2.2.2.2.2.2.2.2
  have HW1 := Lib.hid (And.intro hw1 hA1)
  clear hb1 hw1 hA1 hcs
  go_wp2_with fail
  clear c0 c1 c2 c3 c4 c5 c6 c7 c8 c9 c10 c11 c12
  have h1 : TwoR w n 0 a (fun _ => 0) w.heap.size w1.heap.size (w1.alloc (.cells (relCs 0 fun _ => 0) 25)) := ⟨HW1.out.1.alloc HW1.out.1.size _, Lies.alloc HW1.out.2 _, Lies.new _ _ _⟩
  change Calls _ _ _ (w1.alloc (.cells (relCs 0 fun _ => 0) 25)) _
  clear HW1 HB
  generalize w1.alloc (.cells (relCs 0 fun _ => 0) 25) = W1 at h1 ⊢
  generalize w1.heap.size = C at h1 ⊢
  refine (least_err n a E W1 hE HF.out).mono ?_
  rintro e w2 ⟨rfl, hb2⟩
  have h2 := h1.next hb2
  have c0 := h2.one.size
  obtain ⟨c1, c2, c3, c4, c5, c6, c7, c8, c9, c10, c11, c12⟩ := h2.one.rows
  have H2 := Lib.hid h2
  clear h1 hb2 h2
  go_wp2_with fail
  clear c0 c1 c2 c3 c4 c5 c6 c7 c8 c9 c10 c11 c12
  refine (count_err n a E w2 hE HF.out).mono ?_
  rintro e w3 ⟨rfl, hb3⟩
  have h3 := H2.out.next hb3
  have c0 := h3.one.size
  obtain ⟨c1, c2, c3, c4, c5, c6, c7, c8, c9, c10, c11, c12⟩ := h3.one.rows
  clear H2
  have H3 := Lib.hid h3
  clear h3 hb3
  go_wp2_with fail
  clear c0 c1 c2 c3 c4 c5 c6 c7 c8 c9 c10 c11 c12
  refine (HC.out.2 w3).mono ?_
  rintro e w4 ⟨rfl, hb4⟩
  have h4 := H3.out.next hb4
  have c0 := h4.one.size
  obtain ⟨c1, c2, c3, c4, c5, c6, c7, c8, c9, c10, c11, c12⟩ := h4.one.rows
  clear H3
  have H4 := Lib.hid h4
  clear h4 hb4
  go_wp2_with fail
  clear c0 c1 c2 c3 c4 c5 c6 c7 c8 c9 c10 c11 c12
  refine (HC.out.1 w4).mono ?_
  rintro e w5 ⟨rfl, hb5⟩
  have h5 := H4.out.next hb5
  have c0 := h5.two.size
  obtain ⟨c1, c2, c3, c4, c5, c6, c7, c8, c9, c10, c11, c12⟩ := h5.two.rows
  clear H4
  have H5 := Lib.hid h5.below
  clear h5 hb5
  have hq := rows_same 0 0 0 0 0 0 0 0 0 0 0 0 w5
  go_wp2_with fail
  go_ret
  exact ⟨rfl, H5.out⟩
end Go.Proofs.YtcpmhflkooipdaaDoor
