/-
  Contract of order.ready.
-/
import Derived.Test.YtcpmhflkooipdaaDoorMem
namespace Go.Proofs.YtcpmhflkooipdaaDoor
open Go.RowKit
set_option maxRecDepth 20000

set_option maxHeartbeats 1000000 in
theorem ready_any (n : Nat) (b : Nat → Nat) (d : Nat) (w : World) (hn : n ≤ 12) (hb : ∀ i, i < 12 → b i < 65536) (hd : d < 65536) :
    Calls Tryd.prog 26 #[relV n b, .int .u16 d] w fun e w' => e = .returned (.int .u16 (rdyUp b d n)) ∧ Below w.heap.size w w' := by
  have hB : RelB (w.alloc (.cells (relCs n b) 25)) w.heap.size n b := Lies.new _ _ _
  have hb0 : Below w.heap.size w (w.alloc (.cells (relCs n b) 25)) := (Below.refl _ _).alloc (Nat.le_refl _) _
  go_enter Tryd.func26, Tryd.ntmps26
  go_wp2_with fail
  change Code.wp _ _ _ _ (w.alloc (.cells (relCs n b) 25))
  generalize w.alloc (.cells (relCs n b) 25) = W at hB hb0 ⊢
  go_loop [5, 9] (fun s i => ∃ k : Nat, k ≤ n ∧ i = .int .i64 k ∧ s = .int .u16 (rdyUp b d k)) (fun _ i => n - (intOf i).toNat)
  case atStart => exact ⟨0, by omega, rfl, rfl⟩
  case round =>
    obtain ⟨k, hk, rfl, rfl⟩ := hrel
    by_cases hkn : k < n
    · have hr := hB.row' (show k < 12 by omega)
      have hv := u16_andNot_nat (b k) d (hb k (by omega)) hd
      have ho := or_pow (rdyUp b d k) k (rdyUp_lt b d 16 k (by omega)) (by omega)
      have hp := pow_u16 k (by omega)
      have he : rdyUp b d (k + 1) = if d.testBit k = false ∧ b k &&& (65535 - d) = 0 then rdyUp b d k ||| 2 ^ k else rdyUp b d k := rfl
      have hz := nat_eq0 (b k &&& (65535 - d))
      cases hdk : d.testBit k
      · by_cases hbk : b k &&& (65535 - d) = 0
        · rw [if_pos ⟨hdk, hbk⟩] at he
          rw [decide_eq_true hbk] at hz
          have HE := Lib.hid he
          have HD := Lib.hid hdk
          clear he hbk hdk
          go_wp2_with (go_at_call 22; refine (has_no d k _ hd (by omega) HD.out).mono ?_; rintro e w' ⟨rfl, rfl⟩)
          go_round
          case rel => exact ⟨k + 1, by omega, by go_num, by rw [HE.out]⟩
          case measure => simp [intOf]; omega
        · rw [if_neg (fun h => hbk h.2)] at he
          rw [decide_eq_false hbk] at hz
          have HE := Lib.hid he
          have HD := Lib.hid hdk
          clear he hbk hdk
          go_wp2_with (go_at_call 22; refine (has_no d k _ hd (by omega) HD.out).mono ?_; rintro e w' ⟨rfl, rfl⟩)
          go_round
          case rel => exact ⟨k + 1, by omega, by go_num, by rw [HE.out]⟩
          case measure => simp [intOf]; omega
      · rw [if_neg (fun h => by rw [hdk] at h; exact absurd h.1 (by decide))] at he
        have HE := Lib.hid he
        have HD := Lib.hid hdk
        clear he hdk hz
        go_wp2_with (go_at_call 22; refine (has_yes d k _ hd (by omega) HD.out).mono ?_; rintro e w' ⟨rfl, rfl⟩)
        go_round
        case rel => exact ⟨k + 1, by omega, by go_num, by rw [HE.out]⟩
        case measure => simp [intOf]; omega
    · have hkn' : k = n := by omega
      subst hkn'
      go_wp2_with fail
      go_ret
      exact ⟨rfl, hb0⟩
end Go.Proofs.YtcpmhflkooipdaaDoor
