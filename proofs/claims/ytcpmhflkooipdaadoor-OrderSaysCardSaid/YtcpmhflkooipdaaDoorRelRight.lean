/-
  Contract of alibref.RelRight.
-/
import Derived.Test.YtcpmhflkooipdaaDoorAhead
import Derived.Test.YtcpmhflkooipdaaDoorGood
namespace Go.Proofs.YtcpmhflkooipdaaDoor
open Go.RowKit
set_option maxRecDepth 20000

/-- A pair that stands there and is out of bounds. -/
def outOf (n : Nat) (a : Nat → Nat) (i j : Nat) : Prop := (a i).testBit j = true ∧ (n ≤ i ∨ n ≤ j)
theorem rowBad_of {n : Nat} {a : Nat → Nat} {i j : Nat} (hn : n ≤ 12) (ha : a i < 65536) (h : outOf n a i j) : rowBad n i (a i) = true := by
  obtain ⟨h1, h2⟩ := h
  cases hb : rowBad n i (a i)
  · exfalso
    unfold rowBad at hb
    rw [Bool.or_eq_false_iff, Bool.and_eq_false_iff] at hb
    obtain ⟨b1, b2⟩ := hb
    have hz : a i &&& (65535 - (2 ^ n - 1)) = 0 := by
      rw [bne_eq_false_iff_eq] at b1
      exact b1
    have h3 := sub_of_zero ha (ones_lt hn) hz j h1
    rw [ones_bit, decide_eq_true_iff] at h3
    rcases h2 with h2 | h2
    · rcases b2 with b2 | b2
      · rw [decide_eq_false_iff_not] at b2
        omega
      · rw [bne_eq_false_iff_eq] at b2
        rw [b2] at h1
        simp at h1
    · omega
  · rfl
theorem good_not_out {n : Nat} {a : Nat → Nat} (h : Good n a) {i j : Nat} (hi : i < 12) : ¬ outOf n a i j := fun ho => by
  have := rowBad_of h.le (h.lt i hi) ho
  rw [h.rows i hi] at this
  cases this
/-- The three ways of a relation that is handed in. -/
theorem rel_ways (n : Int) (a : Nat → Nat) (ha : ∀ i, a i < 65536) : (n < 0 ∨ 12 < n) ∨ ∃ m : Nat, n = m ∧ m ≤ 12 ∧ ((∃ i, i < 12 ∧ rowBad m i (a i) = true) ∨ Good m a) := by
  by_cases h0 : n < 0
  · exact .inl (.inl h0)
  by_cases h1 : 12 < n
  · exact .inl (.inr h1)
  obtain ⟨m, rfl⟩ : ∃ m : Nat, n = m := ⟨n.toNat, by omega⟩
  refine .inr ⟨m, rfl, by omega, ?_⟩
  by_cases hb : ∃ i, i < 12 ∧ rowBad m i (a i) = true
  · exact .inl hb
  · exact .inr ⟨by omega, fun i _ => ha i, fun i hi => by
      cases h : rowBad m i (a i)
      · rfl
      · exact absurd ⟨i, hi, h⟩ hb⟩
theorem out_of_bad {n : Nat} {a : Nat → Nat} {i : Nat} (ha : a i < 65536) (h : rowBad n i (a i) = true) : ∃ j, j < 16 ∧ outOf n a i j := by
  unfold rowBad at h
  rw [Bool.or_eq_true, Bool.and_eq_true] at h
  rcases h with h | ⟨h1, h2⟩
  · rw [bne_iff_ne] at h
    obtain ⟨j, hj⟩ : ∃ j, (a i &&& (65535 - (2 ^ n - 1))).testBit j = true := by
      apply Classical.byContradiction
      intro hne
      apply h
      apply Nat.eq_of_testBit_eq
      intro j
      rw [Nat.zero_testBit]
      cases hb : (a i &&& (65535 - (2 ^ n - 1))).testBit j
      · rfl
      · exact absurd ⟨j, hb⟩ hne
    rw [Nat.testBit_and, Bool.and_eq_true] at hj
    have hj16 := bit_lt16 ha hj.1
    refine ⟨j, hj16, hj.1, ?_⟩
    right
    rcases Nat.lt_or_ge j n with h3 | h3
    · exfalso
      have h4 := hj.2
      by_cases hn : n ≤ 16
      · have h5 : 2 ^ n - 1 < 65536 := by
          have := Nat.pow_le_pow_right (show 0 < 2 by decide) hn
          have := Nat.two_pow_pos n
          omega
        rw [not_bit _ _ h5, ones_bit, decide_eq_true h3] at h4
        simp at h4
      · have h5 : 65535 - (2 ^ n - 1) = 0 := by
          have := Nat.pow_le_pow_right (show 0 < 2 by decide) (show 16 ≤ n by omega)
          omega
        rw [h5] at h4
        simp at h4
    · exact h3
  · rw [decide_eq_true_iff] at h1
    rw [bne_iff_ne] at h2
    obtain ⟨j, hj⟩ : ∃ j, (a i).testBit j = true := by
      apply Classical.byContradiction
      intro hne
      apply h2
      apply Nat.eq_of_testBit_eq
      intro j
      rw [Nat.zero_testBit]
      cases hb : (a i).testBit j
      · rfl
      · exact absurd ⟨j, hb⟩ hne
    exact ⟨j, bit_lt16 ha hj, hj, Or.inl h1⟩

theorem rright_arg (n : Int) (a : Nat → Nat) (w : World) (h : n < 0 ∨ 12 < n) :
    Calls Tryd.prog 8 #[relV n a] w fun e w' => e = .returned (.int .i64 1) ∧ Below w.heap.size w w' := by
  have hd : decide (0 ≤ n ∧ n ≤ 12) = false := decide_eq_false (by omega)
  have hb0 : Below w.heap.size w (w.alloc (.cells (relCs n a) 25)) := (Below.refl _ _).alloc (Nat.le_refl _) _
  have HB := Lib.hid hb0
  clear hb0 h
  go_enter Tryd.func8, Tryd.ntmps8
  go_wp2_with fail
  refine (between_any n 0 12 _).mono ?_
  rintro e w' ⟨rfl, rfl⟩
  rw [hd]
  go_wp2_with fail
  go_ret
  exact ⟨rfl, HB.out⟩

set_option maxHeartbeats 4000000 in
theorem rright_go (n : Nat) (a : Nat → Nat) (w : World) (hn : n ≤ 12) :
    Calls Tryd.prog 8 #[relV n a] w fun e w' => Below w.heap.size w w' ∧ ((e = .returned (.int .i64 3) ∧ ∃ i j, i < 12 ∧ j < 16 ∧ outOf n a i j) ∨ (e = .returned (.int .i64 0) ∧ ∀ i j, i < 12 → j < 16 → ¬ outOf n a i j)) := by
  have hd : decide ((0 : Int) ≤ (n : Int) ∧ (n : Int) ≤ 12) = true := decide_eq_true (by omega)
  have hR : FsR w n a (w.alloc (.cells (relCs n a) 25)) := ⟨(Below.refl _ _).alloc (Nat.le_refl _) _, Lies.new _ _ _⟩
  have HR := Lib.hid hR
  clear hR
  go_enter Tryd.func8, Tryd.ntmps8
  go_wp2_with fail
  refine (between_any n 0 12 _).mono ?_
  rintro e w' ⟨rfl, rfl⟩
  rw [hd]
  clear hd
  go_wp2_with fail
  have hR := HR.out
  clear HR
  change Code.wp _ _ _ _ (w.alloc (.cells (relCs n a) 25))
  generalize w.alloc (.cells (relCs n a) 25) = W at hR ⊢
  go_loopw [9] (fun v wr => ∃ i : Nat, i ≤ 12 ∧ v = .int .i64 i ∧ FsR w n a wr ∧ ∀ x, x < i → ∀ j, j < 16 → ¬ outOf n a x j) (fun v _ => 12 - (intOf v).toNat)
  case atStart => exact ⟨0, by omega, rfl, hR, fun x hx => by omega⟩
  case round =>
    clear hR
    obtain ⟨i, hi, rfl, hR, h1⟩ := hrel
    have H1 := Lib.hid h1
    clear h1
    by_cases hi12 : i < 12
    · have hi12' : (i : Int) < 12 := by omega
      have HR := Lib.hid hR
      clear hR
      go_wp2_with fail
      have hR := HR.out
      clear HR
      obtain ⟨wo1, rfl⟩ : ∃ wo : World, wo = wr := ⟨_, rfl⟩
      go_loopw [12] (fun v wr => ∃ j : Nat, j ≤ 16 ∧ v = .int .i64 j ∧ FsR w n a wr ∧ ∀ x, x < j → ¬ outOf n a i x) (fun v _ => 16 - (intOf v).toNat)
      case atStart => exact ⟨0, by omega, rfl, hR, fun x hx => by omega⟩
      case round =>
        clear hR
        obtain ⟨j, hj, rfl, hR, h2⟩ := hrel
        have H2 := Lib.hid h2
        clear h2
        by_cases hj16 : j < 16
        · have c0 := hR.rel.size
          obtain ⟨c1, c2, c3, c4, c5, c6, c7, c8, c9, c10, c11, c12⟩ := hR.rel.rows
          have HR := Lib.hid hR
          clear hR
          have j15 : j ≤ 15 := by omega
          cases e1 : (a i).testBit j
          · have HB := Lib.hid (show ¬ outOf n a i j from fun h => by rw [h.1] at e1; cases e1)
            go_wp2_with (go_at_call 19; refine (ahead_any _ a _ _ _ (by omega) (by omega)).mono ?_; rintro e w' ⟨rfl, hb'⟩; clear c0 c1 c2 c3 c4 c5 c6 c7 c8 c9 c10 c11 c12; have hR' := HR.out.next hb'; have c0 := hR'.rel.size; have HR := Lib.hid hR'; clear hR' hb')
            go_roundw
            case rel => exact ⟨j + 1, by omega, by go_num, HR.out, fun x hx => (Nat.lt_or_ge x j).elim (fun h => H2.out x h) (fun h => by
              obtain rfl : x = j := by omega
              exact HB.out)⟩
            case measure => simp [intOf]; omega
          · by_cases hout : n ≤ i ∨ n ≤ j
            · have HB := Lib.hid (show outOf n a i j from ⟨e1, hout⟩)
              by_cases k1 : n ≤ i
              · have k1' : (n : Int) ≤ (i : Int) := by omega
                clear hout
                go_wp2_with (go_at_call 19; refine (ahead_any _ a _ _ _ (by omega) (by omega)).mono ?_; rintro e w' ⟨rfl, hb'⟩; clear c0 c1 c2 c3 c4 c5 c6 c7 c8 c9 c10 c11 c12; have hR' := HR.out.next hb'; have c0 := hR'.rel.size; have HR := Lib.hid hR'; clear hR' hb')
                go_ret
                exact ⟨HR.out.below, Or.inl ⟨rfl, i, j, by omega, by omega, HB.out⟩⟩
              · have k1' : ¬ (n : Int) ≤ (i : Int) := by omega
                have k2' : (n : Int) ≤ (j : Int) := by omega
                clear hout
                go_wp2_with (go_at_call 19; refine (ahead_any _ a _ _ _ (by omega) (by omega)).mono ?_; rintro e w' ⟨rfl, hb'⟩; clear c0 c1 c2 c3 c4 c5 c6 c7 c8 c9 c10 c11 c12; have hR' := HR.out.next hb'; have c0 := hR'.rel.size; have HR := Lib.hid hR'; clear hR' hb')
                go_ret
                exact ⟨HR.out.below, Or.inl ⟨rfl, i, j, by omega, by omega, HB.out⟩⟩
            · have HB := Lib.hid (show ¬ outOf n a i j from fun h => hout h.2)
              have k1' : ¬ (n : Int) ≤ (i : Int) := by omega
              have k2' : ¬ (n : Int) ≤ (j : Int) := by omega
              clear hout
              go_wp2_with (go_at_call 19; refine (ahead_any _ a _ _ _ (by omega) (by omega)).mono ?_; rintro e w' ⟨rfl, hb'⟩; clear c0 c1 c2 c3 c4 c5 c6 c7 c8 c9 c10 c11 c12; have hR' := HR.out.next hb'; have c0 := hR'.rel.size; have HR := Lib.hid hR'; clear hR' hb')
              go_roundw
              case rel => exact ⟨j + 1, by omega, by go_num, HR.out, fun x hx => (Nat.lt_or_ge x j).elim (fun h => H2.out x h) (fun h => by
                obtain rfl : x = j := by omega
                exact HB.out)⟩
              case measure => simp [intOf]; omega
        · obtain rfl : j = 16 := by omega
          have HR := Lib.hid hR
          clear hR
          go_wp2_with fail
          go_roundw
          case rel => exact ⟨i + 1, by omega, by go_num, HR.out, fun x hx => (Nat.lt_or_ge x i).elim (fun h => H1.out x h) (fun h => by
            obtain rfl : x = i := by omega
            exact H2.out)⟩
          case measure => simp [intOf]; omega
    · obtain rfl : i = 12 := by omega
      have HR := Lib.hid hR
      clear hR
      go_wp2_with fail
      go_ret
      exact ⟨HR.out.below, Or.inr ⟨rfl, fun i j hi hj => H1.out i hi j hj⟩⟩
end Go.Proofs.YtcpmhflkooipdaaDoor
