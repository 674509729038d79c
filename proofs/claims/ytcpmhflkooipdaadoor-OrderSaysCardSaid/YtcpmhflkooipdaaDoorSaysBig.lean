/-
  aliblaw.OrderSays where nothing is round.
-/
import Derived.Test.YtcpmhflkooipdaaDoorSays
import Derived.Test.YtcpmhflkooipdaaDoorLeast
import Derived.Test.YtcpmhflkooipdaaDoorCount
import Derived.Test.YtcpmhflkooipdaaDoorLof
namespace Go.Proofs.YtcpmhflkooipdaaDoor
open Go.RowKit
set_option maxRecDepth 20000

set_option maxHeartbeats 8000000 in
theorem says_big (n : Nat) (a : Nat → Nat) (w : World) (h : Good n a) (hy : cyc (clo n a) n = false) (hT : Tab w) (hpos : 0 < w.heap.size) (hc : Checks n a 0) (hr : Rights n a 0) (h6 : (6 : Int) < n) :
    Calls Tryd.prog 3 #[relV n a] w fun e w' => e = .returned (.bool true) ∧ Below w.heap.size w w' := by
  have hle := h.le
  have hclose := fun w => close_any n a w h
  have hcl := fun w => closed_by n a w h
  rw [hy] at hclose hcl
  have hleast := fun w ht hp => least_no n a w h hy ht hp
  have hcount := fun w => count_no n a w h hy
  have hlof := fun w => lof_any n a w h hy
  have hord := fun w => orders_nil n a w h (strict_clo h hy)
  have hlen : (lsL (rev n (clo n a)) n n).length ≤ 1000000 := by rw [lsL_length]; omega
  generalize lsL (rev n (clo n a)) n n = xs at hleast hlof hord hlen
  generalize cntC n (clo n a) = m at hcount hord
  generalize clo n a = c at hclose hcl
  have HF := Lib.hid (And.intro (And.intro hleast hcount) (And.intro hlof (And.intro hord hlen)))
  have HC := Lib.hid (And.intro hc hr)
  have HD := Lib.hid (And.intro hclose hcl)
  have HT := Lib.hid (And.intro hT hpos)
  have hbase : Below w.heap.size w (w.alloc (.cells (relCs n a) 25)) := (Below.refl _ _).alloc (Nat.le_refl _) _
  have HB := Lib.hid hbase
  clear hc hr hbase hclose hcl hy h hleast hcount hlof hord hlen hT hpos
  go_enter Tryd.func3, Tryd.ntmps3
  go_wp2_with fail
  refine (HD.out.1 _).mono ?_
  rintro e w1 ⟨rfl, hb1⟩
  have hA1 : RelB w1 w.heap.size n a := Lies.below (Lies.new w _ _) hb1 (by simp)
  have hw1 : Below w.heap.size w w1 := HB.out.trans (hb1.mono (by simp))
  have c0 := fun o => (show RelB (w1.alloc o) w.heap.size n a from Lies.alloc hA1 o).size
  have cs := fun o => (show RelB (w1.alloc o) w.heap.size n a from Lies.alloc hA1 o).rows
  have c1 := fun o => (cs o).1
  have c2 := fun o => (cs o).2.1
  have c3 := fun o => (cs o).2.2.1
  have c4 := fun o => (cs o).2.2.2.1
  have c5 := fun o => (cs o).2.2.2.2.1
  have c6 := fun o => (cs o).2.2.2.2.2.1
  have c7 := fun o => (cs o).2.2.2.2.2.2.1
  have c8 := fun o => (cs o).2.2.2.2.2.2.2.1
  have c9 := fun o => (cs o).2.2.2.2.2.2.2.2.1
  have c10 := fun o => (cs o).2.2.2.2.2.2.2.2.2.1
  have c11 := fun o => (cs o).2.2.2.2.2.2.2.2.2.2.1
  have c12 := fun o => (cs o).2.2.2.2.2.2.2.2.2.2.2
  clear cs
  have HW1 := Lib.hid (And.intro hw1 hA1)
  clear hb1 hw1 hA1
  go_wp2_with fail
  clear c0 c1 c2 c3 c4 c5 c6 c7 c8 c9 c10 c11 c12
  have h1 : TwoR w n n a c w.heap.size w1.heap.size (w1.alloc (.cells (relCs n c) 25)) := ⟨HW1.out.1.alloc HW1.out.1.size _, Lies.alloc HW1.out.2 _, Lies.new _ _ _⟩
  change Calls _ _ _ (w1.alloc (.cells (relCs n c) 25)) _
  clear HW1 HB
  generalize w1.alloc (.cells (relCs n c) 25) = W1 at h1 ⊢
  generalize w1.heap.size = C at h1 ⊢
  refine (HF.out.1.1 W1 (h1.tab HT.out) (h1.pos HT.out)).mono ?_
  rintro e w2 ⟨v, rfl, hx2, hb2⟩
  have h2 := h1.next hb2
  have c0 := h2.one.size
  obtain ⟨c1, c2, c3, c4, c5, c6, c7, c8, c9, c10, c11, c12⟩ := h2.one.rows
  have H2 := Lib.hid (And.intro h2 hx2)
  clear h1 hb2 h2 hx2 HT
  go_wp2_with fail
  clear c0 c1 c2 c3 c4 c5 c6 c7 c8 c9 c10 c11 c12
  refine (HF.out.1.2 w2).mono ?_
  rintro e w3 ⟨rfl, hb3⟩
  have h3 := H2.out.1.next hb3
  have hx3 := H2.out.2.then_ hb3
  have c0 := h3.one.size
  obtain ⟨c1, c2, c3, c4, c5, c6, c7, c8, c9, c10, c11, c12⟩ := h3.one.rows
  clear H2
  have H3 := Lib.hid (And.intro h3 hx3)
  clear h3 hb3 hx3
  go_wp2_with fail
  clear c0 c1 c2 c3 c4 c5 c6 c7 c8 c9 c10 c11 c12
  refine (HC.out.2 w3).mono ?_
  rintro e w4 ⟨rfl, hb4⟩
  have h4 := H3.out.1.next hb4
  have hx4 := H3.out.2.then_ hb4
  have c0 := h4.one.size
  obtain ⟨c1, c2, c3, c4, c5, c6, c7, c8, c9, c10, c11, c12⟩ := h4.one.rows
  clear H3
  have H4 := Lib.hid (And.intro h4 hx4)
  clear h4 hb4 hx4
  go_wp2_with fail
  clear c0 c1 c2 c3 c4 c5 c6 c7 c8 c9 c10 c11 c12
  refine (HC.out.1 w4).mono ?_
  rintro e w5 ⟨rfl, hb5⟩
  have h5 := H4.out.1.next hb5
  have hx5 := H4.out.2.then_ hb5
  have c0 := h5.one.size
  obtain ⟨c1, c2, c3, c4, c5, c6, c7, c8, c9, c10, c11, c12⟩ := h5.one.rows
  clear H4
  have H5 := Lib.hid (And.intro h5 hx5)
  clear h5 hb5 hx5
  go_wp2_with fail
  clear c0 c1 c2 c3 c4 c5 c6 c7 c8 c9 c10 c11 c12
  refine (HD.out.2 w5).mono ?_
  rintro e w6 ⟨rfl, hb6⟩
  have h6' := H5.out.1.next hb6
  have hx6 := H5.out.2.then_ hb6
  clear H5
  have c0 := fun o => (show RelB (w6.alloc o) w.heap.size n a from Lies.alloc h6'.one o).size
  have cs := fun o => (show RelB (w6.alloc o) w.heap.size n a from Lies.alloc h6'.one o).rows
  have c1 := fun o => (cs o).1
  have c2 := fun o => (cs o).2.1
  have c3 := fun o => (cs o).2.2.1
  have c4 := fun o => (cs o).2.2.2.1
  have c5 := fun o => (cs o).2.2.2.2.1
  have c6 := fun o => (cs o).2.2.2.2.2.1
  have c7 := fun o => (cs o).2.2.2.2.2.2.1
  have c8 := fun o => (cs o).2.2.2.2.2.2.2.1
  have c9 := fun o => (cs o).2.2.2.2.2.2.2.2.1
  have c10 := fun o => (cs o).2.2.2.2.2.2.2.2.2.1
  have c11 := fun o => (cs o).2.2.2.2.2.2.2.2.2.2.1
  have c12 := fun o => (cs o).2.2.2.2.2.2.2.2.2.2.2
  clear cs
  have d0 := fun o => (show RelB (w6.alloc o) C n c from Lies.alloc h6'.two o).size
  have ds := fun o => (show RelB (w6.alloc o) C n c from Lies.alloc h6'.two o).rows
  have d1 := fun o => (ds o).1
  have d2 := fun o => (ds o).2.1
  have d3 := fun o => (ds o).2.2.1
  have d4 := fun o => (ds o).2.2.2.1
  have d5 := fun o => (ds o).2.2.2.2.1
  have d6 := fun o => (ds o).2.2.2.2.2.1
  have d7 := fun o => (ds o).2.2.2.2.2.2.1
  have d8 := fun o => (ds o).2.2.2.2.2.2.2.1
  have d9 := fun o => (ds o).2.2.2.2.2.2.2.2.1
  have d10 := fun o => (ds o).2.2.2.2.2.2.2.2.2.1
  have d11 := fun o => (ds o).2.2.2.2.2.2.2.2.2.2.1
  have d12 := fun o => (ds o).2.2.2.2.2.2.2.2.2.2.2
  clear ds
  have hq := fun o => rows_same (c 0) (c 1) (c 2) (c 3) (c 4) (c 5) (c 6) (c 7) (c 8) (c 9) (c 10) (c 11) (w6.alloc o)
  have H6 := Lib.hid (And.intro h6'.below hx6)
  clear h6' hb6 hx6
  go_wp2_with fail
  clear c0 c1 c2 c3 c4 c5 c6 c7 c8 c9 c10 c11 c12
  clear d0 d1 d2 d3 d4 d5 d6 d7 d8 d9 d10 d11 d12 hq
  have hw7 := H6.out.1.alloc H6.out.1.size (.cells (relCs n c) 25)
  have hx7 := H6.out.2.alloc (.cells (relCs n c) 25)
  change Calls _ _ _ (w6.alloc (.cells (relCs n c) 25)) _
  clear H6
  generalize w6.alloc (.cells (relCs n c) 25) = W7 at hw7 hx7 ⊢
  refine (HF.out.2.1 W7).mono ?_
  rintro e w8 ⟨v', rfl, hy8, hb8⟩
  have H8 := Lib.hid (And.intro (hw7.trans (hb8.mono hw7.size)) (And.intro (hx7.then_ hb8) hy8))
  clear hw7 hx7 hb8 hy8
  go_wp2_with fail
  refine (equal_same H8.out.2.1.rd H8.out.2.2.rd HF.out.2.2.2).mono ?_
  rintro e w9 ⟨rfl, hb9⟩
  have H9 := Lib.hid (H8.out.1.trans (hb9.mono H8.out.1.size))
  clear H8 hb9
  go_wp2_with fail
  go_ret
  exact ⟨rfl, H9.out⟩
end Go.Proofs.YtcpmhflkooipdaaDoor
