/-
  alibkeep.OrderClosed answers true, whatever the relation.
-/
import Derived.Test.YtbcgjebdodaaoaaDoorAlive
import Derived.Test.YtbcgjebdodaaoaaDoorGood
import Derived.Test.YtbcgjebdodaaoaaDoorSame
namespace Go.Proofs.YtbcgjebdodaaoaaDoor
open Go.RowKit

set_option maxHeartbeats 1000000 in
theorem closed_err (n : Int) (a : Nat → Nat) (E : Int) (w : World) (hE : (E != 0) = true) (hc : Checks n a E) (hT : Tab w) (hpos : 0 < w.heap.size) :
    Calls Tryd.prog 3 #[relV n a] w fun e w' => e = .returned (.bool true) ∧ Below w.heap.size w w' := by
  go_enter Tryd.func3, Tryd.ntmps3
  go_wp2_with fail
  refine (close_err n a E _ hE hc).mono ?_
  rintro e w1 ⟨rfl, hb1⟩
  have hw1 : Below w.heap.size w w1 := ((Below.refl _ _).alloc (Nat.le_refl _) _).trans (hb1.mono (by simp))
  have HT := Lib.hid (And.intro hT hpos)
  have HW1 := Lib.hid hw1
  clear hb1 hw1 hT hpos
  go_wp2_with fail
  have hB1 : RelB (w1.alloc (.cells (relCs 0 fun _ => 0) 25)) w1.heap.size 0 (fun _ => 0) := Lies.new _ _ _
  have hw1 := HW1.out.alloc HW1.out.size (.cells (relCs 0 fun _ => 0) 25)
  change Calls _ _ _ (w1.alloc (.cells (relCs 0 fun _ => 0) 25)) _
  clear HW1
  generalize w1.alloc (.cells (relCs 0 fun _ => 0) 25) = W1 at hB1 hw1 ⊢
  generalize w1.heap.size = C at hB1 ⊢
  refine (lives_true W1 (HT.out.1.below hw1 HT.out.2) (Nat.lt_of_lt_of_le HT.out.2 hw1.size)).mono ?_
  rintro e w2 ⟨rfl, hb2⟩
  have hB2 : RelB w2 C 0 (fun _ => 0) := Lies.below hB1 hb2 hB1.lt
  have hw2 := hw1.trans (hb2.mono hw1.size)
  have H2 := Lib.hid (And.intro hw2 hB2)
  clear hB1 hw1 hb2 hB2 hw2
  go_wp2_with fail
  refine (lives_true w2 (HT.out.1.below H2.out.1 HT.out.2) (Nat.lt_of_lt_of_le HT.out.2 H2.out.1.size)).mono ?_
  rintro e w3 ⟨rfl, hb3⟩
  have hB3 : RelB w3 C 0 (fun _ => 0) := Lies.below H2.out.2 hb3 H2.out.2.lt
  have hw3 := H2.out.1.trans (hb3.mono H2.out.1.size)
  have c0 := hB3.size
  obtain ⟨c1, c2, c3, c4, c5, c6, c7, c8, c9, c10, c11, c12⟩ := hB3.rows
  have H3 := Lib.hid hw3
  clear hB3 hw3 hb3 H2
  have hq := rows_same 0 0 0 0 0 0 0 0 0 0 0 0 w3
  go_wp2_with fail
  go_ret
  exact ⟨rfl, H3.out⟩

/-- Two relations lie as they were laid; old memory is as it was. -/
structure TwoR (w0 : World) (n m : Int) (a c : Nat → Nat) (A C : Nat) (w : World) : Prop where
  below : Below w0.heap.size w0 w
  one : RelB w A n a
  two : RelB w C m c
theorem TwoR.next {w0 w w' : World} {n m : Int} {a c : Nat → Nat} {A C : Nat} (h : TwoR w0 n m a c A C w) (hb : Below w.heap.size w w') : TwoR w0 n m a c A C w' :=
  ⟨h.below.trans (hb.mono h.below.size), Lies.below h.one hb h.one.lt, Lies.below h.two hb h.two.lt⟩
theorem TwoR.tab {w0 w : World} {n m : Int} {a c : Nat → Nat} {A C : Nat} (h : TwoR w0 n m a c A C w) (hT : Tab w0 ∧ 0 < w0.heap.size) : Tab w := hT.1.below h.below hT.2
theorem TwoR.pos {w0 w : World} {n m : Int} {a c : Nat → Nat} {A C : Nat} (h : TwoR w0 n m a c A C w) (hT : Tab w0 ∧ 0 < w0.heap.size) : 0 < w.heap.size := Nat.lt_of_lt_of_le hT.2 h.below.size

set_option maxHeartbeats 2000000 in
theorem closed_good (n : Nat) (a : Nat → Nat) (x y : Int) (w : World) (h : Good n a)
    (hA : ∀ w, Calls Tryd.prog 13 #[relV n a] w fun e w' => e = .returned (.tuple #[.int .i64 x, .int .i64 y]) ∧ Below w.heap.size w w')
    (hC : ∀ w, Calls Tryd.prog 13 #[relV n (clo n a)] w fun e w' => e = .returned (.tuple #[.int .i64 x, .int .i64 y]) ∧ Below w.heap.size w w')
    (hT : Tab w) (hpos : 0 < w.heap.size) :
    Calls Tryd.prog 3 #[relV n a] w fun e w' => e = .returned (.bool true) ∧ Below w.heap.size w w' := by
  have hclose := fun w => close_any n a w h
  have hclose2 := fun w => close_any n (clo n a) w h.clo
  rw [clo_clo] at hclose2
  have hsub := fun i hi => clo_sub n a i h hi
  have hal := h.lt
  have hcl := h.clo.lt
  generalize cyc (clo n a) n = b at hclose hclose2
  generalize clo n a = c at hclose hclose2 hC hsub hcl
  have HCl := Lib.hid (And.intro hclose hclose2)
  have HAC := Lib.hid (And.intro hA hC)
  have HS := Lib.hid (And.intro hsub (And.intro hal hcl))
  have HT := Lib.hid (And.intro hT hpos)
  clear hclose hclose2 hA hC hsub hal hcl h hT hpos
  go_enter Tryd.func3, Tryd.ntmps3
  go_wp2_with fail
  refine (HCl.out.1 _).mono ?_
  rintro e w1 ⟨rfl, hb1⟩
  have hw1 : Below w.heap.size w w1 := ((Below.refl _ _).alloc (Nat.le_refl _) _).trans (hb1.mono (by simp))
  have hA1 : RelB w1 w.heap.size n a := Lies.below (Lies.new w _ _) hb1 (by simp)
  have HW1 := Lib.hid (And.intro hw1 hA1)
  clear hb1 hw1 hA1
  go_wp2_with fail
  have h1 : TwoR w n n a c w.heap.size w1.heap.size (w1.alloc (.cells (relCs n c) 25)) := ⟨HW1.out.1.alloc HW1.out.1.size _, Lies.alloc HW1.out.2 _, Lies.new _ _ _⟩
  change Calls _ _ _ (w1.alloc (.cells (relCs n c) 25)) _
  clear HW1
  generalize w1.alloc (.cells (relCs n c) 25) = W1 at h1 ⊢
  generalize w1.heap.size = C at h1 ⊢
  refine (lives_true W1 (h1.tab HT.out) (h1.pos HT.out)).mono ?_
  rintro e w2 ⟨rfl, hb2⟩
  have h2 := h1.next hb2
  have c0 := h2.two.size
  obtain ⟨c1, c2, c3, c4, c5, c6, c7, c8, c9, c10, c11, c12⟩ := h2.two.rows
  have H2 := Lib.hid h2
  clear h1 hb2 h2
  go_wp2_with fail
  clear c0 c1 c2 c3 c4 c5 c6 c7 c8 c9 c10 c11 c12
  refine (HCl.out.2 _).mono ?_
  rintro e w3 ⟨rfl, hb3⟩
  have h3 := H2.out.next hb3
  have H3 := Lib.hid h3
  clear H2 h3 hb3
  go_wp2_with fail
  have h4 : TwoR w n n a c w.heap.size C (w3.alloc (.cells (relCs n c) 25)) := H3.out.next ((Below.refl _ _).alloc (Nat.le_refl _) _)
  have hD : RelB (w3.alloc (.cells (relCs n c) 25)) w3.heap.size n c := Lies.new _ _ _
  change Code.wp _ _ _ _ (w3.alloc (.cells (relCs n c) 25))
  clear H3
  generalize w3.alloc (.cells (relCs n c) 25) = W4 at h4 hD ⊢
  generalize w3.heap.size = D at hD ⊢
  have H4 := Lib.hid (And.intro h4 hD)
  clear h4 hD
  go_loopw [38] (fun i wr => ∃ k : Nat, k ≤ 12 ∧ i = .int .i64 k ∧ TwoR w n n a c w.heap.size C wr ∧ RelB wr D n c) (fun i _ => 12 - (intOf i).toNat)
  case atStart => exact ⟨0, by omega, rfl, H4.out⟩
  case round =>
    clear H4
    obtain ⟨k, hk, rfl, hR, hD⟩ := hrel
    by_cases hk12 : k < 12
    · have ak := hR.one.row' (k := k) hk12
      have ck := hR.two.row' (k := k) hk12
      have hv := u16_andNot_nat (a k) (c k) (HS.out.2.1 k hk12) (HS.out.2.2 k hk12)
      rw [HS.out.1 k hk12] at hv
      have hz : (((0 : Nat) : Int) != 0) = false := rfl
      have H := Lib.hid (And.intro hR hD)
      clear hR hD
      go_wp2_with fail
      go_region
      have hR : TwoR w n n a c w.heap.size C wr.drew := H.out.1.next (Below.refl _ _).drew
      have hD : RelB wr.drew D n c := H.out.2
      clear H ak ck hv hz
      generalize wr.drew = w5 at hR hD ⊢
      go_wp2_with fail
      go_roundw
      case rel => exact ⟨k + 1, by omega, by go_num, hR, hD⟩
      case measure => simp [intOf]; omega
    · have hkn : k = 12 := by omega
      subst hkn
      have c0 := hR.one.size
      obtain ⟨c1, c2, c3, c4, c5, c6, c7, c8, c9, c10, c11, c12⟩ := hR.one.rows
      have H := Lib.hid (And.intro hR hD)
      clear hR hD
      go_wp2_with fail
      clear c0 c1 c2 c3 c4 c5 c6 c7 c8 c9 c10 c11 c12
      refine (HAC.out.1 _).mono ?_
      rintro e w5 ⟨rfl, hb5⟩
      have h5 := H.out.1.next hb5
      have hD := Lies.below H.out.2 hb5 H.out.2.lt
      have c0 := h5.two.size
      obtain ⟨c1, c2, c3, c4, c5, c6, c7, c8, c9, c10, c11, c12⟩ := h5.two.rows
      clear H hb5
      have H := Lib.hid (And.intro h5 hD)
      clear h5 hD
      go_wp2_with fail
      clear c0 c1 c2 c3 c4 c5 c6 c7 c8 c9 c10 c11 c12
      refine (HAC.out.2 _).mono ?_
      rintro e w6 ⟨rfl, hb6⟩
      have h6 := H.out.1.next hb6
      have hD : RelB w6 D n c := Lies.below H.out.2 hb6 H.out.2.lt
      have c0 := h6.two.size
      obtain ⟨c1, c2, c3, c4, c5, c6, c7, c8, c9, c10, c11, c12⟩ := h6.two.rows
      have d0 := hD.size
      obtain ⟨d1, d2, d3, d4, d5, d6, d7, d8, d9, d10, d11, d12⟩ := hD.rows
      have hq := rows_same (c 0) (c 1) (c 2) (c 3) (c 4) (c 5) (c 6) (c 7) (c 8) (c 9) (c 10) (c 11) w6
      clear H hb6
      have H := Lib.hid h6.below
      clear h6 hD
      go_wp2_with fail
      go_ret
      exact ⟨rfl, H.out⟩

theorem closed_all (n : Int) (a : Nat → Nat) (w : World) (ha : ∀ i, a i < 65536) (hT : Tab w) (hpos : 0 < w.heap.size) :
    Calls Tryd.prog 3 #[relV n a] w fun e w' => e = .returned (.bool true) ∧ Below w.heap.size w w' := by
  rcases check_ways n a ha with ⟨E, hE, _, hc⟩ | ⟨m, rfl, h⟩
  · exact closed_err n a E w hE hc hT hpos
  · cases hy : cyc (clo m a) m with
    | true =>
      exact closed_good m a 0 4 w h (fun w => count_err m a 4 w rfl (fails_round h hy)) (fun w => count_err m (clo m a) 4 w rfl (fails_round h.clo (by rw [clo_clo]; exact hy))) hT hpos
    | false =>
      refine closed_good m a (cntC m (clo m a)) 0 w h (fun w => count_no m a w h hy) (fun w => ?_) hT hpos
      have := count_no m (clo m a) w h.clo (by rw [clo_clo]; exact hy)
      rw [clo_clo] at this
      exact this
end Go.Proofs.YtbcgjebdodaaoaaDoor
