/-
  aliblaw.OrderSays where something is round.
-/
import Derived.Test.YtcpmhflkooipdaaDoorSays
namespace Go.Proofs.YtcpmhflkooipdaaDoor
open Go.RowKit
set_option maxRecDepth 20000

set_option maxHeartbeats 4000000 in
theorem says_round (n : Nat) (a : Nat → Nat) (w : World) (h : Good n a) (hy : cyc (clo n a) n = true) (hc : Checks n a 0) (hr : Rights n a 0) :
    Calls Tryd.prog 3 #[relV n a] w fun e w' => e = .returned (.bool true) ∧ Below w.heap.size w w' := by
  have hF : Fails n a 4 := fails_round h hy
  have hE : ((4 : Int) != 0) = true := rfl
  have hclose := fun w => close_any n a w h
  have hcl := fun w => closed_by n a w h
  rw [hy] at hclose hcl
  generalize clo n a = c at hclose hcl
  have HF := Lib.hid hF
  have HC := Lib.hid (And.intro hc hr)
  have HD := Lib.hid (And.intro hclose hcl)
  have hbase : Below w.heap.size w (w.alloc (.cells (relCs n a) 25)) := (Below.refl _ _).alloc (Nat.le_refl _) _
  have HB := Lib.hid hbase
  clear hF hc hr hbase hclose hcl hy h
  go_enter Tryd.func3, Tryd.ntmps3
  go_wp2_with fail
  refine (HD.out.1 _).mono ?_
  rintro e w1 ⟨rfl, hb1⟩
  have hA1 : RelB w1 w.heap.size n a := Lies.below (Lies.new w _ _) hb1 (by simp)
  have hw1 : Below w.heap.size w w1 := HB.out.trans (hb1.mono (by simp))
  have c0 := fun o => (show RelB (w1.alloc o) w.heap.size n a from Lies.alloc hA1 o).size
  have hcs := fun o => (show RelB (w1.alloc o) w.heap.size n a from Lies.alloc hA1 o).rows
  have c1 := fun o => (hcs o).1
  have c2 := fun o => (hcs o).2.1
  have c3 := fun o => (hcs o).2.2.1
  have c4 := fun o => (hcs o).2.2.2.1
  have c5 := fun o => (hcs o).2.2.2.2.1
  have c6 := fun o => (hcs o).2.2.2.2.2.1
  have c7 := fun o => (hcs o).2.2.2.2.2.2.1
  have c8 := fun o => (hcs o).2.2.2.2.2.2.2.1
  have c9 := fun o => (hcs o).2.2.2.2.2.2.2.2.1
  have c10 := fun o => (hcs o).2.2.2.2.2.2.2.2.2.1
  have c11 := fun o => (hcs o).2.2.2.2.2.2.2.2.2.2.1
  have c12 := fun o => (hcs o).2.2.2.2.2.2.2.2.2.2.2
  have HW1 := Lib.hid (And.intro hw1 hA1)
  clear hb1 hw1 hA1 hcs
  go_wp2_with fail
  clear c0 c1 c2 c3 c4 c5 c6 c7 c8 c9 c10 c11 c12
  have h1 : TwoR w n n a c w.heap.size w1.heap.size (w1.alloc (.cells (relCs n c) 25)) := ⟨HW1.out.1.alloc HW1.out.1.size _, Lies.alloc HW1.out.2 _, Lies.new _ _ _⟩
  change Calls _ _ _ (w1.alloc (.cells (relCs n c) 25)) _
  clear HW1 HB
  generalize w1.alloc (.cells (relCs n c) 25) = W1 at h1 ⊢
  generalize w1.heap.size = C at h1 ⊢
  refine (least_err n a 4 W1 hE HF.out).mono ?_
  rintro e w2 ⟨rfl, hb2⟩
  have h2 := h1.next hb2
  have c0 := h2.one.size
  obtain ⟨c1, c2, c3, c4, c5, c6, c7, c8, c9, c10, c11, c12⟩ := h2.one.rows
  have H2 := Lib.hid h2
  clear h1 hb2 h2
  go_wp2_with fail
  clear c0 c1 c2 c3 c4 c5 c6 c7 c8 c9 c10 c11 c12
  refine (count_err n a 4 w2 hE HF.out).mono ?_
  rintro e w3 ⟨rfl, hb3⟩
  have h3 := H2.out.next hb3
  have c0 := h3.one.size
  obtain ⟨c1, c2, c3, c4, c5, c6, c7, c8, c9, c10, c11, c12⟩ := h3.one.rows
  clear H2
  have H3 := Lib.hid h3
  clear h3 hb3
  go_wp2_with fail
  clear c0 c1 c2 c3 c4 c5 c6 c7 c8 c9 c10 c11 c12
  refine (HC.out.2 w3).mono ?_
  rintro e w4 ⟨rfl, hb4⟩
  have h4 := H3.out.next hb4
  have c0 := h4.one.size
  obtain ⟨c1, c2, c3, c4, c5, c6, c7, c8, c9, c10, c11, c12⟩ := h4.one.rows
  clear H3
  have H4 := Lib.hid h4
  clear h4 hb4
  go_wp2_with fail
  clear c0 c1 c2 c3 c4 c5 c6 c7 c8 c9 c10 c11 c12
  refine (HC.out.1 w4).mono ?_
  rintro e w5 ⟨rfl, hb5⟩
  have h5 := H4.out.next hb5
  have c0 := h5.one.size
  obtain ⟨c1, c2, c3, c4, c5, c6, c7, c8, c9, c10, c11, c12⟩ := h5.one.rows
  clear H4
  have H5 := Lib.hid h5
  clear h5 hb5
  go_wp2_with fail
  clear c0 c1 c2 c3 c4 c5 c6 c7 c8 c9 c10 c11 c12
  refine (HD.out.2 w5).mono ?_
  rintro e w6 ⟨rfl, hb6⟩
  have h6 := H5.out.next hb6
  clear H5
  have d0 := fun o => (show RelB (w6.alloc o) C n c from Lies.alloc h6.two o).size
  have ds := fun o => (show RelB (w6.alloc o) C n c from Lies.alloc h6.two o).rows
  have d1 := fun o => (ds o).1
  have d2 := fun o => (ds o).2.1
  have d3 := fun o => (ds o).2.2.1
  have d4 := fun o => (ds o).2.2.2.1
  have d5 := fun o => (ds o).2.2.2.2.1
  have d6 := fun o => (ds o).2.2.2.2.2.1
  have d7 := fun o => (ds o).2.2.2.2.2.2.1
  have d8 := fun o => (ds o).2.2.2.2.2.2.2.1
  have d9 := fun o => (ds o).2.2.2.2.2.2.2.2.1
  have d10 := fun o => (ds o).2.2.2.2.2.2.2.2.2.1
  have d11 := fun o => (ds o).2.2.2.2.2.2.2.2.2.2.1
  have d12 := fun o => (ds o).2.2.2.2.2.2.2.2.2.2.2
  clear ds
  have hq := fun o => rows_same (c 0) (c 1) (c 2) (c 3) (c 4) (c 5) (c 6) (c 7) (c 8) (c 9) (c 10) (c 11) (w6.alloc o)
  have H6 := Lib.hid h6.below
  clear h6 hb6
  go_wp2_with fail
  go_ret
  exact ⟨rfl, H6.out.alloc H6.out.size _⟩
end Go.Proofs.YtcpmhflkooipdaaDoor
