/-
  Contracts of order.isAntichain, order.comesBefore, order.widest.
-/
import Derived.Test.YtfjanniojphdoaaDoorBits
import Derived.Test.YtfjanniojphdoaaDoorMem
import Derived.Test.YtfjanniojphdoaaDoorWidePure
namespace Go.Proofs.YtfjanniojphdoaaDoor
open Go.RowKit
set_option maxRecDepth 20000


set_option maxHeartbeats 1000000 in
theorem anti_any (n : Nat) (c : Nat → Nat) (s : Nat) (w : World) (hn : n ≤ 12) (hc : ∀ i, i < 12 → c i < 65536) (hs : s < 65536) :
    Calls Tryd.prog 48 #[relV n c, .int .u16 s] w fun e w' => e = .returned (.bool (antiUp c s n)) ∧ Below w.heap.size w w' := by
  have hB : RelB (w.alloc (.cells (relCs n c) 25)) w.heap.size n c := Lies.new _ _ _
  have hb0 : Below w.heap.size w (w.alloc (.cells (relCs n c) 25)) := (Below.refl _ _).alloc (Nat.le_refl _) _
  go_enter Tryd.func48, Tryd.ntmps48
  go_wp2_with fail
  change Code.wp _ _ _ _ (w.alloc (.cells (relCs n c) 25))
  generalize w.alloc (.cells (relCs n c) 25) = W at hB hb0 ⊢
  go_loop [8] (fun i => ∃ k : Nat, k ≤ n ∧ i = .int .i64 k ∧ antiUp c s k = true) (fun i => n - (intOf i).toNat)
  case atStart => exact ⟨0, by omega, rfl, rfl⟩
  case round =>
    obtain ⟨k, hk, rfl, hy⟩ := hrel
    have HY := Lib.hid hy
    clear hy
    by_cases hkn : k < n
    · have hr := hB.row' (show k < 12 by omega)
      have hv := u16_and_nat (c k) s (hc k (by omega)) hs
      have hz := nat_ne0 (c k &&& s)
      have he : antiUp c s (k + 1) = (antiUp c s k && !(s.testBit k && decide (c k &&& s ≠ 0))) := rfl
      cases hsk : s.testBit k
      · rw [HY.out, hsk] at he
        have HE := Lib.hid he
        have HD := Lib.hid hsk
        clear he hsk hz hv
        go_wp2_with (go_at_call 29; refine (has_no s k _ hs (by omega) HD.out).mono ?_; rintro e w' ⟨rfl, rfl⟩)
        go_round
        case rel => exact ⟨k + 1, by omega, by go_num, by rw [HE.out]; rfl⟩
        case measure => simp [intOf]; omega
      · by_cases hq : c k &&& s = 0
        · rw [HY.out, hsk, decide_eq_false (by simpa using hq)] at he
          rw [decide_eq_false (by simpa using hq)] at hz
          have HE := Lib.hid he
          have HD := Lib.hid hsk
          clear he hsk hq
          go_wp2_with (go_at_call 29; refine (has_yes s k _ hs (by omega) HD.out).mono ?_; rintro e w' ⟨rfl, rfl⟩)
          go_round
          case rel => exact ⟨k + 1, by omega, by go_num, by rw [HE.out]; rfl⟩
          case measure => simp [intOf]; omega
        · rw [HY.out, hsk, decide_eq_true hq] at he
          rw [decide_eq_true hq] at hz
          have he' : antiUp c s n = false := antiUp_mono (show k + 1 ≤ n by omega) he
          have HE := Lib.hid he'
          have HD := Lib.hid hsk
          clear he he' hsk hq
          go_wp2_with (go_at_call 29; refine (has_yes s k _ hs (by omega) HD.out).mono ?_; rintro e w' ⟨rfl, rfl⟩)
          go_ret
          exact ⟨ret_bool (by rw [HE.out]), hb0⟩
    · have hkn' : k = n := by omega
      subst hkn'
      go_wp2_with fail
      go_ret
      exact ⟨ret_bool (by rw [HY.out]), hb0⟩

theorem anti_yes (n : Nat) (c : Nat → Nat) (s : Nat) (w : World) (hn : n ≤ 12) (hc : ∀ i, i < 12 → c i < 65536) (hs : s < 65536) (h : antiUp c s n = true) :
    Calls Tryd.prog 48 #[relV n c, .int .u16 s] w fun e w' => e = .returned (.bool true) ∧ Below w.heap.size w w' := h ▸ anti_any n c s w hn hc hs
theorem anti_no (n : Nat) (c : Nat → Nat) (s : Nat) (w : World) (hn : n ≤ 12) (hc : ∀ i, i < 12 → c i < 65536) (hs : s < 65536) (h : antiUp c s n = false) :
    Calls Tryd.prog 48 #[relV n c, .int .u16 s] w fun e w' => e = .returned (.bool false) ∧ Below w.heap.size w w' := h ▸ anti_any n c s w hn hc hs

theorem xor_lt (a b : Nat) (ha : a < 65536) (hb : b < 65536) : a ^^^ b < 65536 := Nat.xor_lt_two_pow (n := 16) ha hb

set_option maxHeartbeats 1000000 in
theorem comes_any (a b : Nat) (w : World) (ha : a < 65536) (hb : b < 65536) (hT : Tab w) :
    Calls Tryd.prog 47 #[.int .u16 a, .int .u16 b] w fun e w' => e = .returned (.bool (cb a b)) ∧ ∃ n, w' = w.drewN n := by
  have hx := xor_lt a b ha hb
  have hv := u16_xor_nat a b ha hb
  have hT' : ∀ n, Tab (w.drewN n) := fun n => hT
  have HT := Lib.hid hT'
  clear hT hT'
  go_enter Tryd.func47, Tryd.ntmps47
  go_wp2_with fail
  refine (ones_any a _ ha).mono ?_
  rintro e w1 ⟨rfl, n1, rfl⟩
  go_wp2_with fail
  refine (ones_any b _ hb).mono ?_
  rintro e w1 ⟨rfl, n2, rfl⟩
  have hz : ((pop a : Int) != (pop b : Int)) = decide (pop a ≠ pop b) := by rw [Bool.eq_iff_iff, bne_iff_ne, decide_eq_true_iff]; omega
  have hu : cb a b = if pop a = pop b then decide (a ^^^ b ≠ 0) && a.testBit (tz (a ^^^ b)) else decide (pop b < pop a) := rfl
  by_cases hp : pop a = pop b
  · rw [decide_eq_false (by simpa using hp)] at hz
    rw [if_pos hp] at hu
    have hq := nat_ne0 (a ^^^ b)
    clear hp
    by_cases h0 : a ^^^ b = 0
    · rw [decide_eq_false (by simpa using h0)] at hq hu
      have HU := Lib.hid hu
      clear hu h0
      go_wp2_with fail
      go_ret
      exact ⟨ret_bool (by rw [HU.out]; rfl), _, rfl⟩
    · rw [decide_eq_true h0] at hq hu
      have HU := Lib.hid hu
      have h0' : 0 < a ^^^ b := by omega
      have htz : tz (a ^^^ b) < 16 := (low_and 16 _ h0' hx).2
      clear hu h0
      go_wp2_with fail
      refine (tz_any (a ^^^ b) _ hx h0' (HT.out _)).mono ?_
      rintro e w1 ⟨rfl, rfl⟩
      go_wp2_with fail
      refine (has_any a (tz (a ^^^ b)) _ ha (by omega)).mono ?_
      rintro e w1 ⟨rfl, rfl⟩
      go_wp2_with fail
      go_ret
      exact ⟨ret_bool (by rw [HU.out]; rfl), _, rfl⟩
  · rw [decide_eq_true hp] at hz
    rw [if_neg hp] at hu
    have HU := Lib.hid hu
    clear hu hp
    go_wp2_with fail
    go_ret
    exact ⟨ret_bool (by rw [HU.out]), _, rfl⟩

theorem comes_yes (a b : Nat) (w : World) (ha : a < 65536) (hb : b < 65536) (hT : Tab w) (h : cb a b = true) :
    Calls Tryd.prog 47 #[.int .u16 a, .int .u16 b] w fun e w' => e = .returned (.bool true) ∧ ∃ n, w' = w.drewN n := h ▸ comes_any a b w ha hb hT
theorem comes_no (a b : Nat) (w : World) (ha : a < 65536) (hb : b < 65536) (hT : Tab w) (h : cb a b = false) :
    Calls Tryd.prog 47 #[.int .u16 a, .int .u16 b] w fun e w' => e = .returned (.bool false) ∧ ∃ n, w' = w.drewN n := h ▸ comes_any a b w ha hb hT
end Go.Proofs.YtfjanniojphdoaaDoor
