/-
  alibkeep.orderLives answers true.
-/
import Derived.Test.YtfjanniojphdoaaDoorLives
import Derived.Test.YtfjanniojphdoaaDoorOk
namespace Go.Proofs.YtfjanniojphdoaaDoor
open Go.RowKit
set_option maxRecDepth 20000

theorem two_good : Good 4 (twoK 2) := ⟨by omega, by decide, by decide⟩
theorem two_not : cyc (clo 4 (twoK 2)) 4 = false := by decide
theorem two_least : lsL (rev 4 (clo 4 (twoK 2))) 4 4 = [2, 0, 3, 1] := by decide
theorem two_count : cntC 4 (clo 4 (twoK 2)) = 6 := by decide +kernel
theorem two_apart : itemsUp (wide 4 (clo 4 (twoK 2))) 4 = [0, 1] := by decide +kernel
theorem two_chains : listed 4 (chainsOf 4 (clo 4 (twoK 2))).nu = [0, 1, 0, 1] := by decide +kernel

set_option maxHeartbeats 1000000 in
theorem lives_true (w : World) (hT : Tab w) (hpos : 0 < w.heap.size) :
    Calls Tryd.prog 24 #[] w fun e w' => e = .returned (.bool true) ∧ Below w.heap.size w w' := by
  go_enter Tryd.func24, Tryd.ntmps24
  go_wp2_with fail
  have hN := Lies.new w 72 #[.int .i64 2, .int .i64 0, .int .i64 3, .int .i64 1]
  refine (rel_two w.heap.size 2 _ (by simp) (Lies.cell hN 0) (Lies.cell hN 1) (Lies.cell hN 2) (Lies.cell hN 3)).mono ?_
  rintro e w1 ⟨he, hb1⟩
  obtain rfl : e = .returned (relV ((4 : Nat) : Int) (twoK 2)) := he
  have hw1 : Below w.heap.size w w1 := ((Below.refl _ _).alloc (Nat.le_refl _) _).trans (hb1.mono (by simp))
  have HT := Lib.hid (And.intro hT hpos)
  have HW1 := Lib.hid hw1
  clear hN hb1 hw1 hT hpos
  go_wp2_with fail
  obtain ⟨R, hR⟩ : ∃ R, R = w1.heap.size := ⟨_, rfl⟩
  have hB1 : RelB (w1.alloc (.cells (relCs 4 (twoK 2)) 25)) R 4 (twoK 2) := by rw [hR]; exact Lies.new _ _ _
  have hw1 := HW1.out.alloc HW1.out.size (.cells (relCs 4 (twoK 2)) 25)
  rw [← hR]
  change Calls _ _ _ (w1.alloc (.cells (relCs 4 (twoK 2)) 25)) _
  clear hR HW1
  generalize w1.alloc (.cells (relCs 4 (twoK 2)) 25) = W1 at hB1 hw1 ⊢
  have HW1 := Lib.hid (And.intro hw1 hB1)
  clear hB1 hw1
  refine (least_no 4 (twoK 2) W1 two_good two_not (HT.out.1.below HW1.out.1 HT.out.2) (Nat.lt_of_lt_of_le HT.out.2 HW1.out.1.size)).mono ?_
  rintro e w2 ⟨v2, rfl, ho2, hb2⟩
  rw [two_least] at ho2
  have hw2 : Below w.heap.size w w2 := HW1.out.1.trans (hb2.mono HW1.out.1.size)
  have hB2 : RelB w2 R 4 (twoK 2) := Lies.below HW1.out.2 hb2 HW1.out.2.lt
  have c0 := hB2.size
  obtain ⟨c1, c2, c3, c4, c5, c6, c7, c8, c9, c10, c11, c12⟩ := hB2.rows
  have HW2 := Lib.hid (And.intro hw2 (And.intro hB2 ho2.rd))
  clear hb2 hw2 ho2 hB2
  go_wp2_with fail
  clear c0 c1 c2 c3 c4 c5 c6 c7 c8 c9 c10 c11 c12
  refine (count_no 4 (twoK 2) w2 two_good two_not).mono ?_
  rintro e w3 ⟨rfl, hb3⟩
  rw [two_count]
  have hB3 : RelB w3 R 4 (twoK 2) := Lies.below HW2.out.2.1 hb3 HW2.out.2.1.lt
  have c0 := hB3.size
  obtain ⟨c1, c2, c3, c4, c5, c6, c7, c8, c9, c10, c11, c12⟩ := hB3.rows
  have HW3 := Lib.hid (And.intro (HW2.out.1.trans (hb3.mono HW2.out.1.size)) (And.intro hB3 ((HW2.out.2.2.below hb3).mono hb3.size)))
  clear hb3 hB3
  go_wp2_with fail
  clear c0 c1 c2 c3 c4 c5 c6 c7 c8 c9 c10 c11 c12
  refine (apart_no 4 (twoK 2) w3 two_good two_not (HT.out.1.below HW3.out.1 HT.out.2) (Nat.lt_of_lt_of_le HT.out.2 HW3.out.1.size)).mono ?_
  rintro e w4 ⟨v4, rfl, ho4, hb4⟩
  rw [two_apart] at ho4
  have hB4 : RelB w4 R 4 (twoK 2) := Lies.below HW3.out.2.1 hb4 HW3.out.2.1.lt
  have c0 := hB4.size
  obtain ⟨c1, c2, c3, c4, c5, c6, c7, c8, c9, c10, c11, c12⟩ := hB4.rows
  have HW4 := Lib.hid (And.intro (HW3.out.1.trans (hb4.mono HW3.out.1.size)) (And.intro ((HW3.out.2.2.below hb4).mono hb4.size) ho4.rd))
  clear hb4 ho4 hB4
  go_wp2_with fail
  clear c0 c1 c2 c3 c4 c5 c6 c7 c8 c9 c10 c11 c12
  refine (chains_no 4 (twoK 2) w4 two_good two_not (HT.out.1.below HW4.out.1 HT.out.2) (Nat.lt_of_lt_of_le HT.out.2 HW4.out.1.size)).mono ?_
  rintro e w5 ⟨v5, rfl, ho5, hb5⟩
  rw [two_chains] at ho5
  have HW5 := Lib.hid (And.intro (HW4.out.1.trans (hb5.mono HW4.out.1.size)) (And.intro ((HW4.out.2.1.below hb5).mono hb5.size) (And.intro ((HW4.out.2.2.below hb5).mono hb5.size) ho5.rd)))
  clear hb5 ho5
  go_wp2_with fail
  refine (ok_zero (IRd.fresh w5 26 [0, 0, 0, 0] _ rfl _ rfl) (by decide) (by decide)).mono ?_
  rintro e w6 ⟨rfl, rfl⟩
  go_wp2_with fail
  have hA := ((Below.refl w5.heap.size w5).alloc (Nat.le_refl _) (.cells #[.int .i64 0, .int .i64 0, .int .i64 0, .int .i64 0] 26)).alloc (by simp) (.cells #[.int .i64 2, .int .i64 0, .int .i64 3, .int .i64 1] 3)
  have f := IRd.fresh (w5.alloc (.cells #[.int .i64 0, .int .i64 0, .int .i64 0, .int .i64 0] 26)) 3 [2, 0, 3, 1] _ rfl _ rfl
  rw [World.size_alloc] at f
  refine (equal_same (HW5.out.2.1.below hA) f (by decide)).mono ?_
  rintro e w6 ⟨rfl, hb6⟩
  have hA6 : Below w5.heap.size w5 w6 := hA.trans (hb6.mono (by simp; omega))
  have HW6 := Lib.hid (And.intro (HW5.out.1.trans (hA6.mono HW5.out.1.size)) (And.intro ((HW5.out.2.2.1.below hA6).mono hA6.size) ((HW5.out.2.2.2.below hA6).mono hA6.size)))
  clear hA f hb6 hA6
  go_wp2_with fail
  have hA := (Below.refl w6.heap.size w6).alloc (Nat.le_refl _) (.cells #[.int .i64 0, .int .i64 1] 3)
  refine (equal_same (HW6.out.2.1.below hA) (IRd.fresh w6 3 [0, 1] _ rfl _ rfl) (by decide)).mono ?_
  rintro e w7 ⟨rfl, hb7⟩
  have hA7 : Below w6.heap.size w6 w7 := hA.trans (hb7.mono (by simp))
  have HW7 := Lib.hid (And.intro (HW6.out.1.trans (hA7.mono HW6.out.1.size)) ((HW6.out.2.2.below hA7).mono hA7.size))
  clear hA hb7 hA7
  go_wp2_with fail
  have hA := (Below.refl w7.heap.size w7).alloc (Nat.le_refl _) (.cells #[.int .i64 0, .int .i64 1, .int .i64 0, .int .i64 1] 3)
  refine (equal_same (HW7.out.2.below hA) (IRd.fresh w7 3 [0, 1, 0, 1] _ rfl _ rfl) (by decide)).mono ?_
  rintro e w8 ⟨rfl, hb8⟩
  have HW8 := Lib.hid (HW7.out.1.trans ((hA.trans (hb8.mono (by simp))).mono HW7.out.1.size))
  clear hA hb8
  go_wp2_with fail
  go_ret
  exact ⟨rfl, HW8.out⟩
end Go.Proofs.YtfjanniojphdoaaDoor
