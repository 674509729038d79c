/-
  alibkeep.OrderProduct answers true, whatever the relation.
-/
import Derived.Test.YtbcgjebdodaaoaaDoorSzpOut
import Derived.Test.YtbcgjebdodaaoaaDoorMirPure
namespace Go.Proofs.YtbcgjebdodaaoaaDoor
open Go.RowKit

set_option maxHeartbeats 1000000 in
theorem prod_err (n : Int) (a : Nat → Nat) (E : Int) (w : World) (hE : (E != 0) = true) (hF : Fails n a E) (hT : Tab w) (hpos : 0 < w.heap.size) :
    Calls Tryd.prog 10 #[relV n a] w fun e w' => e = .returned (.bool true) ∧ Below w.heap.size w w' := by
  have hE0 : E ≠ 0 := (by simpa using hE)
  have HT := Lib.hid (And.intro hT hpos)
  clear hT hpos
  go_enter Tryd.func10, Tryd.ntmps10
  have H := Lib.hid (OneR.start w n a)
  go_wp2_with fail
  refine (chain_err n a E _ hE hF).mono ?_
  rintro e w1 ⟨rfl, hb1⟩
  have h1 := H.out.next hb1
  clear H hb1
  have hlt := h1.one.lt
  have c0 := h1.one.size
  obtain ⟨c1, c2, c3, c4, c5, c6, c7, c8, c9, c10, c11, c12⟩ := h1.one.rows
  have H := Lib.hid h1
  clear h1
  go_wp2_with fail
  clear hlt c0 c1 c2 c3 c4 c5 c6 c7 c8 c9 c10 c11 c12
  refine (apart_err n a E _ hE hF).mono ?_
  rintro e w2 ⟨rfl, hb2⟩
  have h2 := H.out.next hb2
  clear H hb2
  have hlt := h2.one.lt
  have c0 := h2.one.size
  obtain ⟨c1, c2, c3, c4, c5, c6, c7, c8, c9, c10, c11, c12⟩ := h2.one.rows
  have H := Lib.hid h2
  clear h2
  go_wp2_with fail
  clear hlt c0 c1 c2 c3 c4 c5 c6 c7 c8 c9 c10 c11 c12
  refine (lives_true _ (H.out.tab HT.out) (H.out.pos HT.out)).mono ?_
  rintro e w3 ⟨rfl, hb3⟩
  have h3 := H.out.next hb3
  clear H hb3
  have hlt := h3.one.lt
  have c0 := h3.one.size
  obtain ⟨c1, c2, c3, c4, c5, c6, c7, c8, c9, c10, c11, c12⟩ := h3.one.rows
  have H := Lib.hid h3
  clear h3
  go_wp2_with fail
  clear hlt c0 c1 c2 c3 c4 c5 c6 c7 c8 c9 c10 c11 c12
  refine (ok_not (IRd.fresh w3 26 [E, E] _ rfl _ rfl) (x := E) (by simp) hE0 (by simp)).mono ?_
  rintro e w4 ⟨rfl, rfl⟩
  have h4 := H.out.next ((Below.refl w3.heap.size w3).alloc (Nat.le_refl _) (.cells #[.int .i64 E, .int .i64 E] 26))
  clear H
  have H := Lib.hid h4
  clear h4
  go_wp2_with fail
  refine (lives_true _ (H.out.tab HT.out) (H.out.pos HT.out)).mono ?_
  rintro e w5 ⟨rfl, hb5⟩
  have h5 := H.out.next hb5
  clear H hb5
  have H := Lib.hid h5
  clear h5
  go_wp2_with fail
  go_ret
  exact ⟨rfl, H.out.below⟩

set_option maxHeartbeats 1000000 in
theorem prod_no (n : Nat) (a : Nat → Nat) (w : World) (h : Good n a) (hy : cyc (clo n a) n = false) (hT : Tab w) (hpos : 0 < w.heap.size) :
    Calls Tryd.prog 10 #[relV n a] w fun e w' => e = .returned (.bool true) ∧ Below w.heap.size w w' := by
  have HT := Lib.hid (And.intro hT hpos)
  clear hT hpos
  have hs := strict_clo h hy
  have hl1 := (chain_links hs).length
  have hl2 : (itemsUp (wide n (clo n a)) n).length = pop (wide n (clo n a)) := items_wide h.le (clo n a)
  have hge := product_ge hs h.le
  have hb1 : maxUp (len (clo n a) n) n ≤ 12 := maxUp_le fun j hj => Nat.le_trans (len_le hs hj) h.le
  have hb2 := pop_le (wide n (clo n a))
  obtain ⟨R, hR⟩ : ∃ R, R = maxUp (len (clo n a) n) n := ⟨_, rfl⟩
  obtain ⟨P, hP⟩ : ∃ P, P = pop (wide n (clo n a)) := ⟨_, rfl⟩
  rw [← hR] at hge hb1
  rw [← hP] at hge hb2 hl2
  have hl1' := hl1.trans hR.symm
  have hRP : R * P ≤ 12 * 16 := Nat.mul_le_mul hb1 hb2
  have hw : wrap64 ((R : Int) * (P : Int)) = ((R * P : Nat) : Int) := (by
    rw [Int.natCast_mul]
    have : ((R : Int) * (P : Int)) = ((R * P : Nat) : Int) := (Int.natCast_mul R P).symm
    simp only [wrap64]
    omega)
  generalize R * P = M at hge hw
  have HL := Lib.hid (And.intro hl1' (And.intro hl2 (And.intro hge hw)))
  have HY := Lib.hid (And.intro h hy)
  clear hs hl1 hl1' hl2 hge hb1 hb2 h hy hRP hw hR hP
  go_enter Tryd.func10, Tryd.ntmps10
  have H := Lib.hid (OneR.start w n a)
  go_wp2_with fail
  refine (chain_no n a _ HY.out.1 HY.out.2).mono ?_
  rintro e w1 ⟨v1, rfl, ho1, hb1⟩
  obtain ⟨A1, k1, rfl, hr1⟩ := ho1.rd.len HL.out.1
  have h1 := H.out.next hb1
  clear H hb1 ho1 hr1
  have hlt := h1.one.lt
  have c0 := h1.one.size
  obtain ⟨c1, c2, c3, c4, c5, c6, c7, c8, c9, c10, c11, c12⟩ := h1.one.rows
  have H := Lib.hid h1
  clear h1
  go_wp2_with fail
  clear hlt c0 c1 c2 c3 c4 c5 c6 c7 c8 c9 c10 c11 c12
  refine (apart_no n a _ HY.out.1 HY.out.2 (H.out.tab HT.out) (H.out.pos HT.out)).mono ?_
  rintro e w2 ⟨v2, rfl, ho2, hb2⟩
  obtain ⟨A2, k2, rfl, hr2⟩ := ho2.rd.len HL.out.2.1
  have h2 := H.out.next hb2
  clear H hb2 ho2 hr2
  have H := Lib.hid h2
  clear h2
  go_wp2_with fail
  refine (lives_true _ (H.out.tab HT.out) (H.out.pos HT.out)).mono ?_
  rintro e w3 ⟨rfl, hb3⟩
  have h3 := H.out.next hb3
  clear H hb3
  have hlt := h3.one.lt
  have c0 := h3.one.size
  obtain ⟨c1, c2, c3, c4, c5, c6, c7, c8, c9, c10, c11, c12⟩ := h3.one.rows
  have H := Lib.hid h3
  clear h3
  go_wp2_with fail
  refine (ok_zero (IRd.fresh w3 26 [0, 0] _ rfl _ rfl) (by decide) (by decide)).mono ?_
  rintro e w4 ⟨rfl, rfl⟩
  have h4 := H.out.next ((Below.refl w3.heap.size w3).alloc (Nat.le_refl _) (.cells #[.int .i64 0, .int .i64 0] 26))
  clear H
  have H := Lib.hid h4
  clear h4
  obtain ⟨_, _, hge, hw⟩ := HL.out
  go_wp2_with fail
  go_ret
  exact ⟨rfl, H.out.below⟩

theorem prod_all (n : Int) (a : Nat → Nat) (w : World) (ha : ∀ i, a i < 65536) (hT : Tab w) (hpos : 0 < w.heap.size) :
    Calls Tryd.prog 10 #[relV n a] w fun e w' => e = .returned (.bool true) ∧ Below w.heap.size w w' := by
  rcases check_ways n a ha with ⟨E, hE, _, hc⟩ | ⟨m, rfl, h⟩
  · exact prod_err n a E w hE (fails_check hE hc) hT hpos
  · cases hy : cyc (clo m a) m with
    | true => exact prod_err m a 4 w rfl (fails_round h hy) hT hpos
    | false => exact prod_no m a w h hy hT hpos
end Go.Proofs.YtbcgjebdodaaoaaDoor
